"""Flows of whole amounts from place to place, and the paths along which they go.

A flow, and the room for one, is a list with a row for each place: room[here][there] tells how much may still go from
here to there, flow[here][there] how much goes there, which is the negative of what goes the other way.
"""


def empty_table(places):
    """Return a table of zeros with a row and a column for each place."""
    return [[0] * places for _ in range(places)]


def shortest_path(room, start, end):
    """Return a path of as few steps as possible, each of which has some room."""
    reached = {start: True}
    waiting = [(start,)]
    while waiting[0][-1] != end:
        path = waiting.pop(0)
        for there, free in enumerate(room[path[-1]]):
            if free > 0 and there not in reached:
                reached[there] = True
                waiting.append(path + (there,))
    return waiting[0]


def moved_along(room, path, amount):
    """Return the room that is left when the amount goes along the path; as much more may then come back."""
    left = [list(row) for row in room]
    for here, there in zip(path, path[1:]):
        left[here][there] -= amount
        left[there][here] += amount
    return left


def sent(room, start, end, amount):
    """Send the amount, for which there is enough room, from the start to the end.

    Return the pair of the list of the pairs (path, amount) that were sent and of the room that is left.
    """
    sendings, left, missing = [], room, amount
    while missing > 0:
        path = shortest_path(left, start, end)
        part = min([left[here][there] for here, there in zip(path, path[1:])] + [missing])
        sendings.append((path, part))
        left = moved_along(left, path, part)
        missing = missing - part
    return sendings, left


def paths_of(flow, start, end, amount):
    """Return the list of the pairs (path, amount) that together take so much of the flow from the start to the end."""
    # A flow is its own room here: what was sent along one path is not there for the next one.
    return sent(flow, start, end, amount)[0]


def single_flow(points, roads, start, end, amount):
    """Return a flow along the roads that takes the amount, which is not more than the most, from start to end."""
    room = empty_table(points)
    for one, other, width in roads:
        room[one][other] = room[other][one] = width
    left = sent(room, start, end, amount)[1]
    return [[free - rest for free, rest in zip(row, rests)] for row, rests in zip(room, left)]


def even_flow(points, roads, gains):
    """Return a flow that is at each road even or odd as the width is, and takes gains[point] away from each point.

    There must be one, and so at each point the widths and the gain must together be even.
    """
    # What goes from the lesser to the greater point of a road is its width less twice a part of the width. The parts
    # are a flow, too: from the points that would give away too much without parts to those that would give too little.
    source, sink = points, points + 1
    room = empty_table(points + 2)
    excess = [-gain for gain in gains]
    for one, other, width in roads:
        room[one][other] = width
        excess[one] += width
        excess[other] -= width
    for point, more in enumerate(excess):
        room[source][point] = max(more // 2, 0)
        room[point][sink] = max(-more // 2, 0)
    left = sent(room, source, sink, sum(room[source]))[1]
    flow = empty_table(points)
    for one, other, width in roads:
        flow[one][other] = width - 2 * (width - left[one][other])
        flow[other][one] = -flow[one][other]
    return flow
