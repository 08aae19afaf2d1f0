"""Where vehicles meet: the stretches of a place by its events, the parts that they make, the places that join these."""


def stretch_rows(queue):
    """The stretches of a place, each the list of its events; queue has all of them, as queue_events tells them."""
    found = []
    hangs = False
    for event in list(queue):
        if hangs:
            found[-1].append(event)
        else:
            found.append([event])
        hangs = event[3] > 0
    return found


def stretch_names(queue):
    """The lists of the names that each stretch of a place puts into one lot."""
    return [[name for event in events for name in event[1] + event[2]] for events in stretch_rows(queue)]


def names_at(table, place):
    """The list of the names of the trips that start or end at a place."""
    return [trip.name for trip in table if place in (trip.start, trip.goal)]


def parts_of(names, groups):
    """The finest parts of ascending names such that those of each group are in one part; tuples, ascending."""
    heads = {name: name for name in names}
    for group in list(groups):
        head = head_of(heads, group[0])
        for name in list(group):
            heads[head_of(heads, name)] = head
    parts = {}
    for name in list(names):
        parts.setdefault(head_of(heads, name), []).append(name)
    return tuple([tuple(part) for part in parts.values()])


def head_of(heads, name):
    """The name that stands for the part of a name, by a dict that leads from each name to another one of its part."""
    while heads[name] != name:
        name = heads[name]
    return name


def goals_of(table):
    """The dict from each name to the goal of the trip."""
    return {trip.name: trip.goal for trip in table}


def parts_by_places(table):
    """The finest parts of the trips that have no place in common: the lots if all places are taken."""
    return parts_of(table.names, [names_at(table, place) for place in table.places])


def least_taken(goals, parts):
    """The fewest places by which all parts are one if they are taken, of several such tuples the least one.

    goals tells the goal of each name; if all places are taken, the parts are one.
    """
    if len(parts) == 1:
        return ()
    places = sorted(set(list(goals.values())))
    bits = {place: 1 << at for at, place in enumerate(places)}
    # A part touches a place only if a trip of it ends there: in a stretch as many trips are ready as leave.
    touched = sorted(set([bits_of(bits, [goals[name] for name in part]) for part in parts]))
    many = 1
    while True:
        for taken in chosen_tuples(places, many):
            if are_tied(touched, bits_of(bits, taken)):
                return taken
        many = many + 1


def bits_of(bits, places):
    """The bits of some places, of each of them once."""
    return sum([bits[place] for place in sorted(set(places))])


def are_tied(touched, taken):
    """Whether parts are one if some places are taken; all told by bits, one for each place that a part touches."""
    reached = touched[0] & taken
    ahead = 0
    while reached != ahead:
        ahead = reached
        for bits in touched:
            if bits & reached:
                reached = reached | (bits & taken)
    return all([(bits & reached) > 0 for bits in touched])


def chosen_tuples(places, many):
    """All tuples of so many of these places in their order, the tuples ascending."""
    if many == 0:
        return [()]
    chosen = []
    for at, place in enumerate(places):
        chosen = chosen + [(place,) + rest for rest in chosen_tuples(places[at + 1:], many - 1)]
    return chosen
