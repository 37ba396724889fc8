"""The examples of the interface, as they are written there."""

MADE = """
>>> from wishshapes.made import put_together, renamed
>>> from wishshapes.nets import fence_of, fences, load, odd_points, parts, room, tight_fences, weak_fences, width, widths_at
>>> ring = (4, ((0, 1, 1), (0, 3, 1), (1, 2, 1), (2, 3, 1)))
>>> across = ((0, 2, 1), (1, 3, 1))
>>> fences(ring)
[(1,), (1, 2), (1, 2, 3), (1, 3), (2,), (2, 3), (3,)]
>>> [room(ring, across, fence) for fence in fences(ring)], tight_fences(ring, across), weak_fences(ring, ((0, 2, 2), (1, 3, 1)))
([1, 0, 1, 4, 1, 0, 1], [(1, 2), (2, 3)], [(1, 2), (2, 3)])
>>> width(ring, (1, 3)), load(ring, across, (1, 3)), fence_of(ring, (0, 2)), odd_points(ring, across), odd_points(ring, across[:1])
(4, 0, (1, 3), (0, 1, 2, 3), (0, 2))
>>> widths_at((3, ((0, 2, 5),))), parts((3, ((0, 2, 5),))), parts((2, ()))
((5, 0, 5), ((0, 2), (1,)), ((0,), (1,)))
>>> renamed(ring, across, (1, 0, 2, 3))
((4, ((0, 1, 1), (0, 2, 1), (1, 3, 1), (2, 3, 1))), ((0, 3, 1), (1, 2, 1)))
>>> put_together(ring, across, 1, 3)
((3, ((0, 1, 2), (1, 2, 2))), ((0, 2, 1),))
"""

TABLES = """
>>> from wishshapes.single import accepts_amount, accepts_bundle, amount_evidence, least_fences, most, narrower_roads, sides, wider_roads
>>> from wishshapes.tables import accepts_numbers, numbers_evidence, table, tree
>>> net = (4, ((0, 1, 2), (0, 2, 1), (1, 2, 1), (1, 3, 1), (2, 3, 2)))
>>> most(net, 0, 3), least_fences(net, 0, 3), sides(net, 0, 3)
(3, [(1, 2, 3), (2, 3), (3,)], ((0,), (0, 1, 2)))
>>> narrower_roads(net, 0, 3), wider_roads(net, 0, 3), amount_evidence(net, 0, 3, 4)[0]
((0, 1, 2, 3, 4), (), 'fence')
>>> three = (((0, 1, 2, 3), 1), ((0, 1, 3), 1), ((0, 2, 3), 1))
>>> accepts_bundle(net, 0, 3, three), accepts_amount(net, 0, 3, 3, ("ways", three)), accepts_amount(net, 0, 3, 2, ("ways", three))
(True, True, False)
>>> other = (4, ((0, 1, 3), (0, 2, 1), (1, 2, 2), (2, 3, 1)))
>>> table(other), tree(other)
(((0, 1, 4), (0, 2, 3), (0, 3, 1), (1, 2, 3), (1, 3, 1), (2, 3, 1)), ((0, 1, 4), (0, 2, 3), (0, 3, 1)))
>>> narrower_roads(other, 0, 2), wider_roads(other, 0, 2), least_fences(other, 0, 2), sides(other, 0, 2)
((1, 2), (1, 2), [(2, 3)], ((0, 1), (0, 1)))
>>> accepts_numbers(3, ((0, 1, 4), (0, 2, 3), (1, 2, 3)), ("roads", ((0, 1, 4), (1, 2, 3)))), numbers_evidence(3, ((0, 1, 1), (0, 2, 2), (1, 2, 3)))
(True, ('three', 0, 1, 2))
"""

PAIRS = """
>>> from wishshapes.pairs import accepts_together, bound_fences, bounds, count_amounts, go_together, greatest_amounts, most_beside, together_evidence
>>> ring = (4, ((0, 1, 1), (0, 3, 1), (1, 2, 1), (2, 3, 1)))
>>> bounds(ring, (0, 2), (1, 3)), bound_fences(ring, (0, 2), (1, 3)), greatest_amounts(ring, (0, 2), (1, 3)), count_amounts(ring, (0, 2), (1, 3))
((2, 2, 2), ((1, 2), (1,), (1, 2)), [(0, 2), (1, 1), (2, 0)], 6)
>>> halves = ((0, (0, 1, 2), (1, 2)), (0, (0, 3, 2), (1, 2)), (1, (1, 0, 3), (1, 2)), (1, (1, 2, 3), (1, 2)))
>>> accepts_together(ring, (0, 2), (1, 3), (1, 1), ("ways", halves)), accepts_together(ring, (0, 2), (1, 3), (2, 1), ("fence", (2, 3)))
(True, True)
>>> net = (4, ((0, 1, 2), (0, 2, 1), (1, 2, 1), (1, 3, 1), (2, 3, 2)))
>>> bounds(net, (0, 3), (1, 2)), bounds(net, (0, 3), (0, 1)), most_beside(net, (0, 3), (1, 2), 1), go_together(net, (0, 3), (1, 2), (3, 1))
((3, 3, 3), (3, 3, 3), 2, False)
>>> together_evidence(net, (0, 3), (1, 2), (2, 1))[0], together_evidence(net, (0, 3), (1, 2), (3, 1))[0]
('ways', 'fence')
"""

SHAPES = """
>>> from wishshapes.shapes import accepts_shape, greatest_parts, is_enough, least_parts, may_join, put_away, renamed_shape, shape_evidence
>>> ring = ((0, 1), (0, 4), (1, 2), (2, 3), (3, 4))
>>> shape_evidence(ring), shape_evidence(ring[1:]), is_enough(ring + ((5, 6),)), shape_evidence(())
(('enough', 'ring', (0, 1, 2, 3, 4)), ('enough', 'stars', (2, 4)), False, ('enough', 'stars', (0, 1)))
>>> both = ((0, 1), (0, 2), (1, 2), (3, 4))
>>> shape_evidence(both), least_parts(both) == [both], put_away(both), greatest_parts(both)[0]
(('not', 'triangle', ((0, 1), (0, 2), (1, 2), (3, 4))), True, ((0, 1),), ((0, 1), (0, 2), (1, 2)))
>>> may_join(((0, 1), (2, 3)), 5), may_join(ring, 5), renamed_shape(((0, 1), (2, 3)), (6, 5, 4, 3, 2, 1, 0))
(((0, 2), (0, 3), (0, 4), (1, 2), (1, 3), (1, 4), (2, 4), (3, 4)), (), ((3, 4), (5, 6)))
>>> accepts_shape(ring, ("enough", "ring", (3, 2, 1, 0, 4))), accepts_shape(both, ("not", "triangle", both[::-1]))
(True, False)
"""

MEETING = """
>>> from wishshapes.meeting import accepts_meeting, is_met, meeting_evidence, most_along, taken
>>> ring = (4, ((0, 1, 1), (0, 3, 1), (1, 2, 1), (2, 3, 1)))
>>> across = ((0, 2, 1), (1, 3, 1))
>>> is_met(ring, across), most_along(ring, across, 0, (0, 1, 2)), taken(ring, across, 0, (0, 1, 2), 1)
(True, 0, ((4, ((0, 3, 1), (2, 3, 1))), ((1, 3, 1),)))
>>> halves = ((0, (0, 1, 2), (1, 2)), (0, (0, 3, 2), (1, 2)), (1, (1, 0, 3), (1, 2)), (1, (1, 2, 3), (1, 2)))
>>> accepts_meeting(ring, across, ("ways", halves)), accepts_meeting(ring, across, ("fence", (1,)))
(True, False)
>>> meeting_evidence(ring, ((0, 2, 3),)), is_met((2, ()), ((0, 1, 1),)), meeting_evidence((2, ()), ((0, 1, 1),))
(('fence', (1, 2)), False, ('fence', (1,)))
"""

AGAINST = """
>>> from wishshapes.against import accepts_against, multiplied, net_against, renamed_against
>>> both = ((0, 1), (0, 2), (1, 2), (3, 4))
>>> told = net_against(both)
>>> told[:2]
((5, ((0, 3, 1), (0, 4, 1), (1, 3, 1), (1, 4, 1), (2, 3, 1), (2, 4, 1))), ((0, 1, 1), (0, 2, 1), (1, 2, 1), (3, 4, 1)))
>>> told[2:], accepts_against(both, told), accepts_against(both[1:], told)
(((1, 1, 1, 1, 1, 1), ((0, 2, 2, 1, 1), (0, 2, 2, 1, 1), (2, 0, 2, 1, 1), (1, 1, 1, 0, 2))), True, False)
>>> renamed_against(both, told, (4, 3, 2, 1, 0))[1:]
(((0, 1, 1), (2, 3, 1), (2, 4, 1), (3, 4, 1)), (1, 1, 1, 1, 1, 1), ((0, 2, 1, 1, 1), (1, 1, 0, 2, 0), (1, 1, 0, 0, 2), (1, 1, 0, 0, 2)))
>>> net_against(((0, 1), (2, 3), (4, 5)))[:2]
((6, ((0, 2, 1), (0, 3, 1), (0, 4, 1), (1, 2, 1), (1, 3, 1), (1, 4, 1), (2, 5, 1), (3, 5, 1))), ((0, 1, 1), (2, 3, 1), (4, 5, 2)))
>>> net_against(both + ((4, 5),))[2], net_against(both + ((5, 6),))[2], multiplied(both, told, 2)[2]
((1, 1, 1, 1, 1, 1, 1), (1, 1, 1, 1, 3, 1, 1, 1, 1, 1), (2, 2, 2, 2, 2, 2))
"""

LENGTHS = """
>>> from wishshapes.lengths import accepts_evidence, can_be_met, lengths_of, need, rise_from, told_evidence, worth
>>> net = (5, ((0, 3, 1), (0, 4, 1), (1, 3, 1), (1, 4, 1), (2, 3, 1), (2, 4, 1)))
>>> wishes = ((0, 1, 1), (0, 2, 1), (1, 2, 1), (3, 4, 1))
>>> ones = (1, 1, 1, 1, 1, 1)
>>> rises = (rise_from(net, ones, 0), rise_from(net, ones, 0), rise_from(net, ones, 1), rise_from(net, ones, 3))
>>> rises
((0, 2, 2, 1, 1), (0, 2, 2, 1, 1), (2, 0, 2, 1, 1), (1, 1, 1, 0, 2))
>>> worth(net, ones), need(net, wishes, ones, rises), accepts_evidence(net, wishes, ("lengths", ones, rises))
(6, 8, True)
>>> can_be_met(net, wishes), can_be_met(net, wishes[:3]), told_evidence(net, ()), told_evidence(net, ((0, 1, 3),))
(False, True, ('ways', ()), ('fence', (1,)))
>>> lengths_of(net, wishes, (1, 3))
((1, 0, 0, 1, 1, 0), ((0, 1, 0, 1, 0), (0, 0, 0, 0, 0), (1, 0, 1, 0, 1), (1, 0, 1, 0, 1)))
"""
