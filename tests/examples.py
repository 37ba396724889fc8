"""The examples of the interface, as they are written there."""

MADE = """
>>> from wishshapes.made import put_together, renamed
>>> from wishshapes.nets import fence_of, fences, load, odd_points, parts, room, tight_fences, weak_fences, width, widths_at
>>> ring = (4, ((0, 1, 1), (0, 3, 1), (1, 2, 1), (2, 3, 1)))
>>> across = ((0, 2, 1), (1, 3, 1))
>>> fences(ring)
[(1,), (1, 2), (1, 2, 3), (1, 3), (2,), (2, 3), (3,)]
>>> [room(ring, across, fence) for fence in fences(ring)], tight_fences(ring, across), weak_fences(ring, ((0, 2, 2), (1, 3, 1)))
([1, 0, 1, 4, 1, 0, 1], [(1, 2), (2, 3)], [(1, 2), (2, 3)])
>>> width(ring, (1, 3)), load(ring, across, (1, 3)), fence_of(ring, (0, 2)), odd_points(ring, across), odd_points(ring, across[:1])
(4, 0, (1, 3), (0, 1, 2, 3), (0, 2))
>>> widths_at((3, ((0, 2, 5),))), parts((3, ((0, 2, 5),))), parts((2, ()))
((5, 0, 5), ((0, 2), (1,)), ((0,), (1,)))
>>> renamed(ring, across, (1, 0, 2, 3))
((4, ((0, 1, 1), (0, 2, 1), (1, 3, 1), (2, 3, 1))), ((0, 3, 1), (1, 2, 1)))
>>> put_together(ring, across, 1, 3)
((3, ((0, 1, 2), (1, 2, 2))), ((0, 2, 1),))
"""

TABLES = """
>>> from wishshapes.single import accepts_amount, accepts_bundle, amount_evidence, least_fences, most, narrower_roads, sides, wider_roads
>>> from wishshapes.tables import accepts_numbers, numbers_evidence, table, tree
>>> net = (4, ((0, 1, 2), (0, 2, 1), (1, 2, 1), (1, 3, 1), (2, 3, 2)))
>>> most(net, 0, 3), least_fences(net, 0, 3), sides(net, 0, 3)
(3, [(1, 2, 3), (2, 3), (3,)], ((0,), (0, 1, 2)))
>>> narrower_roads(net, 0, 3), wider_roads(net, 0, 3), amount_evidence(net, 0, 3, 4)[0]
((0, 1, 2, 3, 4), (), 'fence')
>>> three = (((0, 1, 2, 3), 1), ((0, 1, 3), 1), ((0, 2, 3), 1))
>>> accepts_bundle(net, 0, 3, three), accepts_amount(net, 0, 3, 3, ("ways", three)), accepts_amount(net, 0, 3, 2, ("ways", three))
(True, True, False)
>>> other = (4, ((0, 1, 3), (0, 2, 1), (1, 2, 2), (2, 3, 1)))
>>> table(other), tree(other)
(((0, 1, 4), (0, 2, 3), (0, 3, 1), (1, 2, 3), (1, 3, 1), (2, 3, 1)), ((0, 1, 4), (0, 2, 3), (0, 3, 1)))
>>> narrower_roads(other, 0, 2), wider_roads(other, 0, 2), least_fences(other, 0, 2), sides(other, 0, 2)
((1, 2), (1, 2), [(2, 3)], ((0, 1), (0, 1)))
>>> accepts_numbers(3, ((0, 1, 4), (0, 2, 3), (1, 2, 3)), ("roads", ((0, 1, 4), (1, 2, 3)))), numbers_evidence(3, ((0, 1, 1), (0, 2, 2), (1, 2, 3)))
(True, ('three', 0, 1, 2))
"""

PAIRS = """
>>> from wishshapes.pairs import accepts_together, bound_fences, bounds, count_amounts, go_together, greatest_amounts, most_beside, together_evidence
>>> ring = (4, ((0, 1, 1), (0, 3, 1), (1, 2, 1), (2, 3, 1)))
>>> bounds(ring, (0, 2), (1, 3)), bound_fences(ring, (0, 2), (1, 3)), greatest_amounts(ring, (0, 2), (1, 3)), count_amounts(ring, (0, 2), (1, 3))
((2, 2, 2), ((1, 2), (1,), (1, 2)), [(0, 2), (1, 1), (2, 0)], 6)
>>> halves = ((0, (0, 1, 2), (1, 2)), (0, (0, 3, 2), (1, 2)), (1, (1, 0, 3), (1, 2)), (1, (1, 2, 3), (1, 2)))
>>> accepts_together(ring, (0, 2), (1, 3), (1, 1), ("ways", halves)), accepts_together(ring, (0, 2), (1, 3), (2, 1), ("fence", (2, 3)))
(True, True)
>>> net = (4, ((0, 1, 2), (0, 2, 1), (1, 2, 1), (1, 3, 1), (2, 3, 2)))
>>> bounds(net, (0, 3), (1, 2)), bounds(net, (0, 3), (0, 1)), most_beside(net, (0, 3), (1, 2), 1), go_together(net, (0, 3), (1, 2), (3, 1))
((3, 3, 3), (3, 3, 3), 2, False)
>>> together_evidence(net, (0, 3), (1, 2), (2, 1))[0], together_evidence(net, (0, 3), (1, 2), (3, 1))[0]
('ways', 'fence')
"""

SHAPES = """
>>> from wishshapes.shapes import accepts_shape, greatest_parts, is_enough, least_parts, may_join, put_away, renamed_shape, shape_evidence
>>> ring = ((0, 1), (0, 4), (1, 2), (2, 3), (3, 4))
>>> shape_evidence(ring), shape_evidence(ring[1:]), is_enough(ring + ((5, 6),)), shape_evidence(())
(('enough', 'ring', (0, 1, 2, 3, 4)), ('enough', 'stars', (2, 4)), False, ('enough', 'stars', (0, 1)))
>>> both = ((0, 1), (0, 2), (1, 2), (3, 4))
>>> shape_evidence(both), least_parts(both) == [both], put_away(both), greatest_parts(both)[0]
(('not', 'triangle', ((0, 1), (0, 2), (1, 2), (3, 4))), True, ((0, 1),), ((0, 1), (0, 2), (1, 2)))
>>> may_join(((0, 1), (2, 3)), 5), may_join(ring, 5), renamed_shape(((0, 1), (2, 3)), (6, 5, 4, 3, 2, 1, 0))
(((0, 2), (0, 3), (0, 4), (1, 2), (1, 3), (1, 4), (2, 4), (3, 4)), (), ((3, 4), (5, 6)))
>>> accepts_shape(ring, ("enough", "ring", (3, 2, 1, 0, 4))), accepts_shape(both, ("not", "triangle", both[::-1]))
(True, False)
"""

MEETING = """
>>> from wishshapes.meeting import accepts_meeting, is_met, meeting_evidence, most_along, taken
>>> ring = (4, ((0, 1, 1), (0, 3, 1), (1, 2, 1), (2, 3, 1)))
>>> across = ((0, 2, 1), (1, 3, 1))
>>> is_met(ring, across), most_along(ring, across, 0, (0, 1, 2)), taken(ring, across, 0, (0, 1, 2), 1)
(True, 0, ((4, ((0, 3, 1), (2, 3, 1))), ((1, 3, 1),)))
>>> halves = ((0, (0, 1, 2), (1, 2)), (0, (0, 3, 2), (1, 2)), (1, (1, 0, 3), (1, 2)), (1, (1, 2, 3), (1, 2)))
>>> accepts_meeting(ring, across, ("ways", halves)), accepts_meeting(ring, across, ("fence", (1,)))
(True, False)
>>> meeting_evidence(ring, ((0, 2, 3),)), is_met((2, ()), ((0, 1, 1),)), meeting_evidence((2, ()), ((0, 1, 1),))
(('fence', (1, 2)), False, ('fence', (1,)))
"""

AGAINST = """
>>> from wishshapes.against import accepts_against, multiplied, net_against, renamed_against
>>> both = ((0, 1), (0, 2), (1, 2), (3, 4))
>>> told = net_against(both)
>>> told[:2]
((5, ((0, 3, 1), (0, 4, 1), (1, 3, 1), (1, 4, 1), (2, 3, 1), (2, 4, 1))), ((0, 1, 1), (0, 2, 1), (1, 2, 1), (3, 4, 1)))
>>> told[2:], accepts_against(both, told), accepts_against(both[1:], told)
(((1, 1, 1, 1, 1, 1), ((0, 2, 2, 1, 1), (0, 2, 2, 1, 1), (2, 0, 2, 1, 1), (1, 1, 1, 0, 2))), True, False)
>>> renamed_against(both, told, (4, 3, 2, 1, 0))[1:]
(((0, 1, 1), (2, 3, 1), (2, 4, 1), (3, 4, 1)), (1, 1, 1, 1, 1, 1), ((0, 2, 1, 1, 1), (1, 1, 0, 2, 0), (1, 1, 0, 0, 2), (1, 1, 0, 0, 2)))
>>> net_against(((0, 1), (2, 3), (4, 5)))[:2]
((6, ((0, 2, 1), (0, 3, 1), (0, 4, 1), (1, 2, 1), (1, 3, 1), (1, 4, 1), (2, 5, 1), (3, 5, 1))), ((0, 1, 1), (2, 3, 1), (4, 5, 2)))
>>> net_against(both + ((4, 5),))[2], net_against(both + ((5, 6),))[2], multiplied(both, told, 2)[2]
((1, 1, 1, 1, 1, 1, 1), (1, 1, 1, 1, 3, 1, 1, 1, 1, 1), (2, 2, 2, 2, 2, 2))
"""

LENGTHS = """
>>> from wishshapes.lengths import accepts_evidence, can_be_met, lengths_of, need, rise_from, told_evidence, worth
>>> net = (5, ((0, 3, 1), (0, 4, 1), (1, 3, 1), (1, 4, 1), (2, 3, 1), (2, 4, 1)))
>>> wishes = ((0, 1, 1), (0, 2, 1), (1, 2, 1), (3, 4, 1))
>>> ones = (1, 1, 1, 1, 1, 1)
>>> rises = (rise_from(net, ones, 0), rise_from(net, ones, 0), rise_from(net, ones, 1), rise_from(net, ones, 3))
>>> rises
((0, 2, 2, 1, 1), (0, 2, 2, 1, 1), (2, 0, 2, 1, 1), (1, 1, 1, 0, 2))
>>> worth(net, ones), need(net, wishes, ones, rises), accepts_evidence(net, wishes, ("lengths", ones, rises))
(6, 8, True)
>>> can_be_met(net, wishes), can_be_met(net, wishes[:3]), told_evidence(net, ()), told_evidence(net, ((0, 1, 3),))
(False, True, ('ways', ()), ('fence', (1,)))
>>> lengths_of(net, wishes, (1, 3))
((1, 0, 0, 1, 1, 0), ((0, 1, 0, 1, 0), (0, 0, 0, 0, 0), (1, 0, 1, 0, 1), (1, 0, 1, 0, 1)))
"""

ENDS = """
>>> from wishshapes.ends import accepts_ends, ends_evidence, greatest_total, reach
>>> star = (4, ((0, 3, 1), (1, 3, 1), (2, 3, 1)))
>>> reach(star, (0, 1, 2), 0), reach(star, (0, 1, 2), 1), greatest_total(star, (0, 1, 2)), greatest_total(star, (0, 1))
((1, (1, 2, 3)), (1, (1,)), (3, 2), (1, 1))
>>> halves = (((0, 3, 1), (1, 2)), ((0, 3, 2), (1, 2)), ((1, 3, 2), (1, 2)))
>>> accepts_ends(star, (0, 1, 2), (halves, ((1, 2, 3), (1,), (2,)))), accepts_ends(star, (0, 1, 2), (halves[:2], ((1, 2, 3), (1,), (2,))))
(True, False)
>>> accepts_ends(star, (0, 1), ends_evidence(star, (0, 1))), ends_evidence((2, ()), (0, 1)), greatest_total((3, ((0, 1, 4), (1, 2, 3))), (0, 1, 2))
(True, ((), ((1,), (1,))), (7, 1))
"""

SHARES = """
>>> from wishshapes.shares import accepts_share, greatest_share, least_quotient
>>> net = (5, ((0, 3, 1), (0, 4, 1), (1, 3, 1), (1, 4, 1), (2, 3, 1), (2, 4, 1)))
>>> wishes = ((0, 1, 1), (0, 2, 1), (1, 2, 1), (3, 4, 1))
>>> greatest_share(net, wishes), least_quotient(net, wishes), greatest_share(net, wishes[3:])
((3, 4), ((1, 1), (1,)), (3, 1))
>>> path = (3, ((0, 1, 2),))
>>> greatest_share(path, ((0, 1, 1), (0, 2, 1))), least_quotient(path, ((0, 1, 1), (0, 2, 1)))
((0, 1), ((0, 1), (2,)))
>>> accepts_share(path, ((0, 1, 1),), ("share", (2, 1), ((0, (0, 1), (2, 1)),), (1,), ((0, 1, 0),)))
True
"""

ROOMS = """
>>> from wishshapes.rooms import accepts_clash, accepts_road, accepts_wish, clashes, given_up, road_room, room_between, room_for, room_tree, sure_wishes, wish_evidence, wish_room
>>> row = (3, ((0, 1, 3), (1, 2, 2)))
>>> wishes = ((0, 2, 1),)
>>> room_between(row, wishes, 0, 1), room_between(row, wishes, 1, 2), room_tree(row, wishes), room_for(row, wishes, 0, 1)
(2, 1, ((0, 1, 2), (0, 2, 1)), 2)
>>> road_room(row, wishes, 0), road_room(row, wishes, 1), wish_room(row, wishes, 0), accepts_wish(row, wishes, 0, wish_evidence(row, wishes, 0))
(2, 1, 1, True)
>>> accepts_road(row, wishes, 0, (2, ((0, (0, 1, 2), (1, 1)),), (1, 2))), accepts_road(row, (), 1, (2, (), None))
(True, True)
>>> ring = (4, ((0, 1, 1), (0, 3, 1), (1, 2, 1), (2, 3, 1)))
>>> three = ((0, 1, 1), (0, 2, 1), (1, 3, 1))
>>> clashes(ring, three), sure_wishes(ring, three), given_up(ring, three), clashes(ring, ((0, 1, 3), (0, 2, 1))), sure_wishes(ring, ((0, 1, 3), (0, 2, 1)))
([(0, 1, 2)], (), (0,), [(0,)], (1,))
>>> accepts_clash(ring, three, (0, 1, 2), ((1, 2), ((), (), ()))), accepts_clash(ring, ((0, 1, 3), (0, 2, 1)), (0,), ((1,), ((),)))
(False, True)
"""

TEXTS = """
>>> from wishshapes.reading import next_tokens, read_task, read_ways
>>> from wishshapes.writing import task_text, ways_text
>>> read_task("3: 0-1 2, 1-2 1; 0-2 1"), read_task("2:"), read_task("2:;0-1 06")
(((3, ((0, 1, 2), (1, 2, 1))), ((0, 2, 1),)), ((2, ()), ()), ((2, ()), ((0, 1, 6),)))
>>> net, wishes = read_task("4: 0-1 1, 0-3 1, 1-2 1, 2-3 1; 0-2 1, 1-3 1")
>>> task_text(net, wishes), task_text((2, ()), ((0, 1, 6),))
('4: 0-1 1, 0-3 1, 1-2 1, 2-3 1; 0-2 1, 1-3 1', '2:; 0-1 6')
>>> read_ways(net, wishes, "0: 0-1-2 1/2; 0: 0-3-2 1/2"), read_ways(net, wishes, "")
(((0, (0, 1, 2), (1, 2)), (0, (0, 3, 2), (1, 2))), ())
>>> ways_text(net, wishes, ((1, (1, 0, 3), (2, 1)), (1, (1, 2, 3), (1, 2))))
'1: 1-0-3 2; 1: 1-2-3 1/2'
>>> next_tokens("4: 0-1 1", "task"), next_tokens("4:", "task"), next_tokens("0: 0-1", "ways"), next_tokens("0: 0-1 1", "ways")
(['","', '";"', 'the end'], ['a number', '";"', 'the end'], ['a number', '"-"'], ['";"', '"/"', 'the end'])
"""

DESKS = """
>>> from wishshapes.desk import Desk
>>> from wishshapes.journals import are_right, replayed
>>> ring = (4, ((0, 1, 1), (0, 3, 1), (1, 2, 1), (2, 3, 1)))
>>> desk = Desk(ring)
>>> desk.act(("wish", 0, 2, 1)), desk.act(("wish", 1, 3, 1)), desk.act(("wish", 0, 1, 1)), desk.evidence(), desk.least_room()
('ways', 'ways', 'fence', ('fence', (1, 2)), -1)
>>> desk.act(("road", 0, 1, 2)), desk.least_room(), desk.undo(), desk.word(), desk.wishes()
('ways', 0, ('road', 0, 1, 2), 'fence', ((0, 1, 1), (0, 2, 1), (1, 3, 1)))
>>> are_right(ring, ((("wish", 0, 2, 1), ("ways", ((0, (0, 1, 2), (1, 1)),))),)), replayed(ring, (("wish", 0, 2, 1), ("road", 0, 1, 0))).word()
(True, 'ways')
"""
