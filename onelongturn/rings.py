"""Rows of clocks that go round the day: the one that shows that no more stays of a length fit under a curve.

Let y(t) be how many stays begin up to the moment t. Under a curve W, with stays of s minutes, it is at most
y(v) + W(v + s) for each v from t - s to t - 1: so a minute v leads to a minute t by a step of 1 to s minutes, at the
cost W(v + s), and a ring of such steps that goes round the day j times bounds the stays of a day by its costs // j.
The least of these bounds is found as a cheapest ring in which each minute keeps one minute that leads to it, its
source: as long as some minute has a cheaper source, that one is taken, by whole numbers alone.
"""

from math import gcd

# More than any minute can cost: those that the ring does not lead to are that far.
FAR = 10 ** 30


def cheapest_ring(heights, takes):
    """The costs of the cheapest ring for its rounds, its rounds, its row of clocks, and the cost y of each minute.

    The costs of the minutes are told as many times as the ring goes round; heights tells the curve minute by minute.
    """
    length = len(heights)
    costs = [heights[(minute + takes) % length] for minute in range(length)]
    sources = first_sources(costs, takes)
    best = least_ring(sources, costs)
    reached = reached_from(best, sources, costs)
    while take_cheaper(reached, sources, costs, takes, best):
        take_longest(reached, sources, costs, takes, best)
        found = least_ring(sources, costs)
        if found[0] * best[1] < best[0] * found[1]:
            best = found
        reached = reached_from(best, sources, costs)
    return (best[0], best[1], tuple([(minute + takes) % length for minute in reversed(list(best[2]))]), reached)


def first_sources(costs, takes):
    """For each minute the source that costs least by itself, of equal ones the farthest."""
    length = len(costs)
    sources = []
    row = []
    head = 0
    for source in range(-takes, length - 1):
        put_behind(row, head, (costs[source % length], source))
        minute = source + 1
        if minute >= 0:
            if row[head][1] < minute - takes:
                head = head + 1
            sources.append(row[head][1] % length)
    return sources


def put_behind(row, head, pair):
    """Puts a pair of a cost and a source into a row in which the costs rise from the index head on.

    Those that cost more and are nearer to what is ahead go out, so that the first one is the cheapest.
    """
    while len(row) > head and row[-1][0] > pair[0]:
        row.pop()
    row.append(pair)


def least_ring(sources, costs):
    """Of the rings of minutes, each the source of the one ahead of it, the cheapest for its rounds.

    A tuple (costs, rounds, the minutes from each one to its source).
    """
    seen = [-1 for _ in sources]
    best = (FAR, 1, [])
    for begin in range(len(sources)):
        minute = begin
        while seen[minute] < 0:
            seen[minute] = begin
            minute = sources[minute]
        if seen[minute] == begin:
            ring = ring_of(minute, sources)
            total = sum([costs[one] for one in ring])
            times = len([one for one in ring if sources[one] >= one])
            if total * best[1] < best[0] * times:
                best = (total, times, ring)
    return best


def ring_of(minute, sources):
    """The list of the minutes from this one on, each followed by its source, until it comes again."""
    ring = [minute]
    while sources[ring[-1]] != minute:
        ring.append(sources[ring[-1]])
    return ring


def reached_from(best, sources, costs):
    """What each minute costs from the first one of the best ring on, by the sources; FAR for those it does not lead to.

    Each day costs as much less as the best ring does in one round, so that this ring costs nothing.
    """
    total, times, ring = best
    reached = [FAR for _ in sources]
    seen = [False for _ in sources]
    reached[ring[0]] = 0
    seen[ring[0]] = True
    for begin in range(len(sources)):
        path = []
        minute = begin
        while not seen[minute]:
            seen[minute] = True
            path.append(minute)
            minute = sources[minute]
        if reached[minute] < FAR:
            for one in reversed(list(path)):
                source = sources[one]
                reached[one] = reached[source] + costs[source] * times - (total if source >= one else 0)
    return reached


def take_cheaper(reached, sources, costs, takes, best):
    """Goes round the day from the best ring's first minute on and takes cheaper sources; whether there were any.

    The costs that are reached and the sources are changed.
    """
    total, times, ring = best
    length = len(sources)
    root = ring[0]
    row = []
    head = 0
    changed = False
    for source in range(root + 1 - takes, root + length):
        at = source % length
        put_behind(row, head, (reached[at] + costs[at] * times + total * (source // length), source))
        minute = source + 1
        if minute > root:
            if row[head][1] < minute - takes:
                head = head + 1
            cheapest = row[head][0] - total * (minute // length)
            if cheapest < reached[minute % length]:
                reached[minute % length] = cheapest
                sources[minute % length] = row[head][1] % length
                changed = True
    return changed


def take_longest(reached, sources, costs, takes, best):
    """Takes the farthest sources where they are cheaper, as often as these steps go round before they meet again.

    In a cheapest ring all steps are the longest ones but those to the ends of times in which the curve is level; so
    few rounds of all steps are enough, where without this there would be one for each round of the ring.
    """
    total, times, ring = best
    length = len(sources)
    apart = gcd(length, takes)
    for begin in range(apart):
        minute = begin
        for _ in range(2 * length // apart):
            source = minute
            minute = (source + takes) % length
            cost = reached[source] + costs[source] * times - (total if source >= minute else 0)
            if cost < reached[minute]:
                reached[minute] = cost
                sources[minute] = source
