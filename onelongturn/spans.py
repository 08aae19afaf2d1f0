"""Spans: pairs (first, last) of clocks, first not above last; ascending, they make up a set of clocks."""


def laid_out(length, pieces):
    """The spans of pieces of a day, of which some go beyond its end, in no order."""
    within = [(first, last) for first, last in pieces if first <= last]
    evenings = [(first, length - 1) for first, last in pieces if last < first]
    mornings = [(0, last) for first, last in pieces if last < first]
    return within + evenings + mornings


def joined_spans(spans):
    """The fewest spans with the same clocks, ascending."""
    joined = []
    for first, last in sorted(set(spans)):
        if joined and first <= joined[-1][1] + 1:
            joined[-1] = (joined[-1][0], max(int(last), joined[-1][1]))
        else:
            joined.append((first, last))
    return joined


def spans_of(length, pieces):
    """The fewest spans of pieces of a day, ascending."""
    return joined_spans(laid_out(length, pieces))


def fewest_pieces(length, pieces):
    """The tuple of the fewest pieces with the same clocks, ascending by their firsts."""
    spans = spans_of(length, pieces)
    if len(spans) > 1 and spans[0][0] == 0 and spans[-1][1] == length - 1:
        return tuple(spans[1:-1] + [(spans[-1][0], spans[0][1])])
    return tuple(spans)


def gaps_between(length, spans):
    """The spans of the clocks of a day that are in none of these spans."""
    gaps = []
    begin = 0
    for first, last in spans:
        if begin < first:
            gaps.append((begin, first - 1))
        begin = last + 1
    if begin < length:
        gaps.append((begin, length - 1))
    return gaps
