"""Nets: lists of arcs, each telling how far its head lies at least behind its tail.

An arc is a tuple (tail, head, far, scale, mark): tail and head are numbers, called nodes; far is a FRACTION; scale is
a SCALE, or None for a hard RULE; mark is that of the RULE. At an ease it tells far and the gap of its scale there.
A ring is a list of arcs, the head of each being the tail of the next one, that of the last the tail of the first,
and the tails unlike; it comes to the sum of what its arcs tell.
"""

from likecuts.fractions import ZERO, fraction, in_units, plus, total
from likecuts.scales import gap_at, level_of


def told_far(arc, ease):
    """What an arc tells at this ease; any ease will do without a scale."""
    far, scale = arc[2], arc[3]
    return far if scale is None else plus(far, gap_at(scale, ease))


def comes_to(arcs, ease):
    """What all these arcs tell at this ease, added up."""
    return total([told_far(arc, ease) for arc in arcs])


def scales_in(arcs):
    """The list of the scales of those arcs that have one."""
    return [arc[3] for arc in arcs if arc[3] is not None]


def marks_in(arcs):
    """The tuple of the marks of the arcs."""
    return tuple([arc[4] for arc in arcs])


def turned_round(arcs):
    """The arcs, each from its head to its tail."""
    return [(head, tail, far, scale, mark) for tail, head, far, scale, mark in arcs]


def joints_of(arcs):
    """The list of the pairs (tail, head) of the arcs."""
    return [(arc[0], arc[1]) for arc in arcs]


def is_closed(arcs):
    """Whether these arcs, or RULES, are a ring in this order."""
    tails, heads = [arc[0] for arc in arcs], [arc[1] for arc in arcs]
    return len(arcs) > 0 and heads == tails[1:] + tails[:1] and len(set(tails)) == len(tails)


def climb(arcs, ease):
    """The pair of heights, a dict from each node to a FRACTION such that each arc is kept at this ease, and None; or,
    where there are none, of None and a ring that comes to more than 0."""
    unit, numbers = in_units([told_far(arc, ease) for arc in arcs])
    heights = {node: 0 for joint in joints_of(arcs) for node in joint}
    came = {}
    for _ in range(len(heights) + 1):
        lifted = None
        for arc, number in zip(arcs, numbers):
            tail, head = arc[0], arc[1]
            if heights[tail] + number > heights[head]:
                heights[head] = heights[tail] + number
                came[head] = arc
                lifted = head
        if lifted is None:
            return {node: fraction(heights[node], unit) for node in heights}, None
    # Still lifted after as many turns as there are nodes: the last one was lifted by a ring that goes up.
    return None, ring_behind(came, lifted)


def ring_behind(came, node):
    """The ring that is come to from node by going back often enough, each time by the arc that came to a node."""
    for _ in range(len(came)):
        node = came[node][0]
    ring, at = [came[node]], came[node][0]
    while at != node:
        ring.append(came[at])
        at = came[at][0]
    ring.reverse()
    return ring


def farthest(arcs, ease, start):
    """The dict from each node that can be come to from start to the greatest sum of what the arcs on the way tell.

    No ring may come to more than 0 at this ease.
    """
    unit, numbers = in_units([told_far(arc, ease) for arc in arcs])
    best = {start: 0}
    moved = True
    while moved:
        moved = False
        for arc, number in zip(arcs, numbers):
            tail, head = arc[0], arc[1]
            if tail in best and (head not in best or best[tail] + number > best[head]):
                best[head] = best[tail] + number
                moved = True
    return {node: fraction(best[node], unit) for node in best}


def tight_arcs(arcs, ease, heights):
    """The list of the arcs that heights just keep at this ease."""
    return [arc for arc in arcs if heights[arc[1]] == plus(heights[arc[0]], told_far(arc, ease))]


def reached(joints, start):
    """The dict of True for each node that can be come to from start along pairs (tail, head)."""
    found, left = {start: True}, [start]
    while left:
        at = left.pop()
        for tail, head in joints:
            if tail == at and head not in found:
                found[head] = True
                left.append(head)
    return found


def mutual_lots(nodes, joints):
    """The list of lots of nodes, an ascending list: tuples of those that can be come to from one another."""
    ahead = {node: reached(joints, node) for node in nodes}
    lots, done = [], {}
    for node in nodes:
        if node in done:
            continue
        lot = tuple([own for own in nodes if own in ahead[node] and node in ahead[own]])
        done.update({own: True for own in lot})
        lots.append(lot)
    return lots


def fast_lots(arcs, heights):
    """The list of lots of nodes that lie on rings of arcs without a scale that come to 0; heights are any of these."""
    # Such a ring goes along arcs only that all heights just keep.
    return mutual_lots(sorted(heights), joints_of(tight_arcs(arcs, ZERO, heights)))


def fewest(arcs, goal):
    """The dict from each node from which goal can be come to, to the number of arcs of the shortest way there."""
    many, nodes = {goal: 0}, [goal]
    # Nodes are looked at in the order in which they are found, also those that are found meanwhile.
    place = 0
    while place < len(nodes):
        for arc in arcs:
            if arc[1] == nodes[place] and arc[0] not in many:
                many[arc[0]] = many[arc[1]] + 1
                nodes.append(arc[0])
        place = place + 1
    return many


def least_way(arcs, start, goal):
    """The list of the arcs of a way from start to goal, of those with the fewest arcs that with the least marks; None
    without any."""
    many = fewest(arcs, goal)
    if start not in many:
        return None
    way, at = [], start
    while at != goal:
        nearer = {arc[4]: arc for arc in arcs if arc[0] == at and many.get(arc[1]) == many[at] - 1}
        way.append(nearer[min(list(nearer))])
        at = way[-1][1]
    return way


def all_ways(arcs, start, goal, most=None):
    """The list of the marks of each way from start to goal that comes to no node twice; if there are more than most,
    of some of them, more than most."""
    found, left = [], [((start,), ())]
    while left and (most is None or len(found) <= most):
        nodes, marks = left.pop()
        if nodes[-1] == goal:
            found.append(marks)
            continue
        for arc in arcs:
            if arc[0] == nodes[-1] and arc[1] not in nodes:
                left.append((nodes + (arc[1],), marks + (arc[4],)))
    return found


def ring_with_scale(arcs):
    """A ring that has an arc with a scale; None without any."""
    for arc in arcs:
        if arc[3] is not None:
            way = least_way(arcs, arc[1], arc[0])
            if way is not None:
                return [arc] + way
    return None


def level_of_ring(ring):
    """The ease at which a ring with a scale comes to 0."""
    return level_of(scales_in(ring), total([arc[2] for arc in ring]))


def least_ring(arcs):
    """The pair of the least level of all rings with a scale, and such a ring; None without any.

    No ring without a scale may come to more than 0.
    """
    ring = ring_with_scale(arcs)
    found = None
    while ring is not None:
        found = (level_of_ring(ring), ring)
        # A ring that comes to more than 0 at this level has a level that is less.
        ring = climb(arcs, found[0])[1]
    return found
