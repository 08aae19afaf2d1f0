"""The looker: adds up and compares what papers tell, of any value; it searches nothing."""

from math import comb

from onelongturn.asked import asked_pauses, check_table
from onelongturn.errors import BadAsk
from onelongturn.fewest import days_between
from onelongturn.kinds import is_int
from onelongturn.lean import queue_events
from onelongturn.meeting import names_at, stretch_names
from onelongturn.plans import ready_moments, waits_behind
from onelongturn.stays import heights_with

MOST_ITEMS = 2000


def shows_fewest(table, pauses, value):
    """Whether any value is a paper of the fewest vehicles."""
    check_table(table)
    told = asked_pauses(pauses)
    if not is_paper(value, "fewest", 4) or not are_cuts(table, value[2]) or not are_follows(table, value[3]):
        return False
    follows = {name: follower for name, follower in value[3]}
    return vehicles_of(table, told, follows) == value[1] and days_of(table, told, value[2]) == value[1]


def shows_turn(table, pauses, value):
    """Whether any value is a paper of the fewest vehicles of one turn, or of parts that are apart."""
    check_table(table)
    if len(table) == 0:
        raise BadAsk("table")
    told = asked_pauses(pauses)
    if is_tuple(value, 2):
        return is_word(value[0], "apart") and is_part(table, value[1]) and are_parted(value[1], groups_of(table))
    if not is_paper(value, "one", 5) or not are_cuts(table, value[3]) or not is_turn(table, value[2]):
        return False
    row = value[2]
    follows = {name: follower for name, follower in zip(row, row[1:] + row[:1])}
    more = value[1] - days_of(table, told, value[3])
    if vehicles_of(table, told, follows) != value[1] or not 0 <= more <= len(table.places):
        return False
    return are_partings(table, told, value[4], more)


def shows_stays(table, pauses, place, takes, spare, value):
    """Whether any value is a paper of the most stays of a day."""
    heights = heights_with(table, pauses, place, takes, spare)
    if not is_paper(value, "stays", 5) or not is_int(value[3]) or value[3] < 1:
        return False
    starts, row = value[2], value[4]
    if not are_clocks(table, starts) or not are_clocks(table, row) or len(starts) != value[1] or len(row) == 0:
        return False
    steps = [(behind - clock - 1) % len(heights) + 1 for clock, behind in zip(row, row[1:] + row[:1])]
    if not all([step <= takes for step in steps]) or sum(steps) != value[3] * len(heights):
        return False
    return fit_under(heights, starts, takes) and sum([heights[clock] for clock in row]) // value[3] == value[1]


def is_tuple(value, many):
    """Whether any value is a tuple of so many items."""
    return isinstance(value, tuple) and len(value) == many


def is_word(value, word):
    """Whether any value is this string."""
    return isinstance(value, str) and value == word


def is_paper(value, word, many):
    """Whether any value is a tuple of so many items that begins with a word and an integer."""
    return is_tuple(value, many) and is_word(value[0], word) and is_int(value[1])


def are_pairs(value, words):
    """Whether any value is a tuple of pairs that begin with these words, in their order."""
    if not is_tuple(value, len(words)):
        return False
    return all([is_tuple(pair, 2) and is_word(pair[0], word) for pair, word in zip(value, words)])


def are_cuts(table, value):
    """Whether any value is the tuple of pairs (place, clock) for all places, in their order."""
    return are_pairs(value, table.places) and all([pair[1] in table.day for pair in value])


def are_follows(table, value):
    """Whether any value is the tuple of pairs (name, next name) of a plan, by the names."""
    if not are_pairs(value, table.names) or not all([pair[1] in table for pair in value]):
        return False
    once = len(set([pair[1] for pair in value])) == len(value)
    return once and all([table[pair[0]].goal == table[pair[1]].start for pair in value])


def is_turn(table, value):
    """Whether any value is a tuple of all names of a table with a trip, each once, as one vehicle can do them."""
    if not is_tuple(value, len(table)) or not all([name in table for name in value]):
        return False
    if len(set(list(value))) != len(value):
        return False
    return all([table[name].goal == table[behind].start for name, behind in zip(value, value[1:] + value[:1])])


def vehicles_of(table, pauses, follows):
    """The vehicles of a plan: the days of all its minutes together."""
    ready = ready_moments(table, pauses)
    waits = waits_behind(table, ready, follows)
    return sum([ready[trip.name] - trip.leaves + waits[trip.name] for trip in table]) // table.day.length


def days_of(table, pauses, cuts):
    """The days of all trips together by right pairs (place, clock)."""
    return days_between(table, pauses, {place: clock for place, clock in cuts})


def are_partings(table, pauses, value, more):
    """Whether any value has a right parting for each set of one place fewer than this number, () if it is 0."""
    many = comb(len(table.places), more - 1) if more > 0 else 0
    if not is_tuple(value, many) or not all([is_tuple(pair, 2) for pair in value]):
        return False
    if not all([is_set_of(pair[0], table.places, more - 1) and is_part(table, pair[1]) for pair in value]):
        return False
    if len(set([pair[0] for pair in value])) != many:
        return False
    apart = {place: stretch_names(queue_events(table, pauses, place)) for place in table.places}
    for places, names in value:
        for place in table.places:
            groups = [names_at(table, place)] if place in places else apart[place]
            if not are_parted(names, groups):
                return False
    return True


def is_set_of(value, words, many):
    """Whether any value is an ascending tuple of so many of these words."""
    if not is_tuple(value, many) or not all([isinstance(word, str) and word in words for word in value]):
        return False
    return all([one < other for one, other in zip(value, value[1:])])


def is_part(table, value):
    """Whether any value is an ascending tuple of names of a table, not of none and not of all."""
    return isinstance(value, tuple) and 0 < len(value) < len(table) and is_set_of(value, table.names, len(value))


def groups_of(table):
    """The lists of the names of the trips at each place."""
    return [names_at(table, place) for place in table.places]


def are_parted(names, groups):
    """Whether no group has one of these names and one of the others."""
    for group in groups:
        inside = len([name for name in group if name in names])
        if 0 < inside < len(group):
            return False
    return True


def are_clocks(table, value):
    """Whether any value is a tuple of clocks, not of more than the looker takes."""
    return isinstance(value, tuple) and len(value) <= MOST_ITEMS and all([clock in table.day for clock in value])


def fit_under(heights, starts, takes):
    """Whether clocks ascend, with duplicates, and stays from them on are in no minute more than its height."""
    length = len(heights)
    if not all([clock <= behind for clock, behind in zip(starts, starts[1:])]):
        return False
    changes = [0 for _ in range(length)]
    for clock in starts:
        end = clock + takes
        changes[clock] = changes[clock] + 1
        changes[end % length] = changes[end % length] - 1
        if end >= length:
            changes[0] = changes[0] + 1
    many = 0
    for minute in range(length):
        many = many + changes[minute]
        if many > heights[minute]:
            return False
    return True
