"""The examples of the document, sign by sign, stage by stage."""

FORMS = r'''
>>> [value_at((3, -1, 2), (1, 4, 5)), value_at((3, -1, 2), (2, 4, 5)), value_at((3, -1, 2), (0, 1, 0)), lowest((4, 6, -2)), opposite((3, -1))]
[9, 12, -1, (2, 3, -1), (-4, 1)]
>>> [put_in((1, 2, -1), ((0, 1), (5, -3)), 1), moved((7, 1, 2), (2, 0), 3), plus((1, 2), (3, -2)), times(-2, (1, 0, 4))]
[(-4, 5), (7, 2, 0, 1), (4, 0), (-2, 0, -8)]
>>> [form_text((3, -1, 2), ("x", "n")), form_text((-1, 0, 1), ("x", "n")), form_text((0, 0, 0), ("x", "n")), form_text((-4,), ())]
['-x + 2 n + 3', 'n - 1', '0', '-4']
'''

ROWS = r'''
>>> RAY, SHUT = ((-3, 1, 0), (0, -1, 2)), ((-3, 2), (1, -1))
>>> [point_or_bar(2, RAY)[0], point_or_bar(1, SHUT)[0], is_point(2, RAY, (2, 7, 4)), is_point(2, RAY, (2, 7, 3)), is_bar(1, SHUT, (1, 2)), is_bar(1, SHUT, (2, 4))]
['point', 'bar', True, False, True, True]
>>> [follows(2, RAY, (-3, 0, 2))[0], is_sum(2, RAY, (-1, 0, 1), (2, 1, 1, 1)), follows(2, RAY, (-2, 0, 1))[0], is_sum(1, SHUT, (-9, 5), (0, 1, 1, 2))]
['follows', True, 'escapes', True]
>>> [least(2, RAY, (0, 0, 1))[:2], least(2, RAY, (0, 1, -1))[0], is_fall(2, RAY, (0, 1, -1), (0, 0, 1)), bare(2, (*RAY, (-3, 0, 2)))]
[('least', (3, 2)), 'falls', True, (0, 1)]
>>> [is_solution((True, False), ((-4, 1, 1), (0, 1, -1)), (1, 2, 2)), is_clash((True, True), ((3, 1, 2),), (-1,)), solved((True, True), ((3, 1, 2),))[0]]
[True, True, 'clash']
>>> best((True, True), ((-6, 2, 3),), (0, 1, 1))[:2]
('least', (2, 1))
'''

SYSTEMS = r'''
>>> HALF = System((("half", 1),), ((0, 1, ((0, 1, -2), (1, -1, 2), (-1, 1, 0)), 1, ((0, ((0, 0, 1),)),), (1, 0, 0, 1)), (0, 0, ((0, -1),), 0, (), (0, 0))))
>>> [str(HALF), edges(HALF), arguments(HALF, (0, 0)), parts(HALF, ((0, 0),)), reached(HALF, ())]
['system of 1 functions, 2 rules', ((0, 0),), ((0, 0, 1),), ((((0, 0),),), ()), (0,)]
>>> [rows_ahead(HALF, ((((0, 1),),), (((0, 0, 1),),)), 0, 1), edge_rows(HALF, empty_keep(HALF), (0, 0))]
[(3, ((0, 1, 0, 0), (0, 1, -2, 0), (1, -1, 2, 0), (-1, 1, 0, 0), (0, 0, 0, 1))), (2, ((0, 1, -2), (1, -1, 2), (-1, 1, 0)))]
>>> system_fault((("f", 1),), ((0, 0, ((0, 1),), 0, ((0, ((0, 1, 0),)),), (0, 1)),))
('rules', 0, 'calls')
'''

RUNS = r'''
>>> RUN = run(HALF, (5,), ((0, (2,)), (0, (1,))))
>>> [str(RUN), RUN.call, RUN.pile, RUN.result]
['standing behind 2 steps, cost 2, 2 deep', (0, (1,)), ((0, (5, 2), 0), (0, (2, 1), 0)), None]
>>> END = RUN.after((0, (0,))).after((1, ()))
>>> [str(END), END.result, list(each_run(HALF, (2,), 1, 9)), is_run(HALF, (2,), ((0, (0,)),))]
['standing behind 4 steps, cost 3, ended', 3, [((0, (1,)), (0, (0,)), (1, ()))], False]
>>> [entered(HALF, (1,), ((0, (0,)),)), ended(HALF, (1,), ((0, (0,)), (1, ()))), tally(HALF, (1,), ((0, (0,)), (1, ())))]
[((None, (1,)), ((0, 0), (0,))), ((0, (0,), 0), (0, (1,), 1)), ({0: 1, 1: 1}, {(0, 0): 1})]
>>> RUN.after((0, (1,)))
raises Refused(('guard', 0))
'''

PROGRAMS = r'''
>>> HALF = "proc main n with m\n  given n >= 0\n  while n - 2 >= 0\n    pay 1\n    n = n - 2\n    m = m + 1\n  end\n  give m\nend\n"
>>> PROGRAM = read_program(HALF)
>>> [spoken(PROGRAM, (7,), (), 100), len(system_of(PROGRAM).functions), len(short(system_of(PROGRAM)).rules), program_text(PROGRAM) == HALF]
[('ended', 3, 3, 14), 6, 2, True]
>>> read_program("proc main n\n  give m\nend\n")
raises ParseError(1)
'''

FALLS = r'''
>>> DOWN = System((("f", 1),), ((0, 0, ((-1, 1),), 1, ((0, ((-1, 1),)),), (0, 0, 0)),))
>>> UP = System((("f", 1),), ((0, 0, ((0, 1),), 1, ((0, ((1, 1),)),), (0, 0, 0)),))
>>> LOT, RANK, BALANCE = ((0, 0),), (((0, 1),), ((1, 0, 0), (1, 1, 1))), ((((1, 0), (1, 0)),), (0, 1))
>>> [is_rank(DOWN, empty_keep(DOWN), LOT, (0, 0), RANK), is_balance(UP, empty_keep(UP), LOT, (0, 0), BALANCE), falling(UP, empty_keep(UP), LOT)]
[True, True, ()]
>>> most_times(DOWN, ((0, 1),), 0, (4,))
5
'''

TREES = r'''
>>> ONE, TWO = (0, 0, ((-1, 1, 0),), 1, ((0, ((-1, 1, 0), (0, 0, 1))),), (0, 0, 0, 0)), (0, 1, ((-1, 0, 1, 0),), 1, ((0, ((0, 0, 0, 1), (-1, 0, 1, 0))),), (0, 0, 0, 0, 0))
>>> PAIR, BOTH = System((("f", 2),), (ONE, TWO)), ((0, 0), (1, 0))
>>> [rounds(PAIR, empty_keep(PAIR), BOTH), left_over(PAIR, empty_keep(PAIR), BOTH)]
[{(0, 0): 2, (1, 0): 1}, ()]
>>> tree = tree_or_stay(PAIR, empty_keep(PAIR), BOTH)[1]
>>> [tree[0][0], [edge for edge, rank in tree[0][1]], is_tree(PAIR, empty_keep(PAIR), BOTH, tree)]
[((0, 0), (1, 0)), [(1, 0)], True]
'''

BILLS = r'''
>>> HALVES = System((("f", 1),), ((0, 2, ((-1, 1, 0, 0), (0, 0, 1, 0), (0, 0, 0, 1), (-1, 1, -1, -1), (1, -1, 1, 1)), 1, ((0, ((0, 0, 1, 0),)), (0, ((0, 0, 0, 1, 0),))), (0,) * 6),), ((0, 1),))
>>> TWINS = System((("f", 1),), ((0, 0, ((-1, 1),), 1, ((0, ((-1, 1),)), (0, ((-1, 1, 0),))), (0,) * 4),), ((0, 1),))
>>> HELD = ((((0, 1),),), ((),))
>>> [items_of(HALVES), item_rows(TWINS, HELD, (0, 2)), due(HALVES, 1, ((0, 1),), (0, 1))]
[((0, 1), (0, 2)), (2, ((0, 1, 0), (-1, 1, 0))), (-1, 1, -1, 0)]
>>> BILL = ("bill", 1, ((0, 1),), ((1, 0, 1),), ((1, 0, 0, 0, 0, 1, 1, 0), (1, 0, 0, 0, 0, 0, 1, 0)))
>>> [is_bill(HALVES, HELD, BILL), billed(HALVES, HELD)[0], allowed(HALVES, HELD, BILL, 0, (7,)), spent(HALVES, (3,), ((0, (2, 0)), (0, (0, 1))))]
[True, 'bill', 7, (2, 1, 0)]
>>> [billed(TWINS, HELD)[0], is_crop(TWINS, HELD, ("crop", (None, ((1, 2, 0), (1, 2, 0))), (((1, 0), (1, 0)),)))]
['crop', True]
'''

LEAST = r'''
>>> FOUND = least_bill(HALVES, HELD, 0, (7,))
>>> [FOUND[:2], is_least_bill(HALVES, HELD, 0, (7,), FOUND), worth(HALVES, HELD, 0, (7,), FOUND[3])]
[('least', (7, 1)), True, (7, 1)]
>>> [least_bill(TWINS, HELD, 0, (3,))[0], lot_items(TWINS, ((0, 1),)), shared(TWINS, HELD, ((0, 1),))[0], shared(TWINS, HELD, ((0, 0), (0, 1)))[0]]
['crop', ((0, 2),), 'shared', 'split']
>>> visits(HALVES, (3,), ((0, (2, 0)), (0, (0, 1))), ((0, 0), (0, 1)))
(2, 1, 0)
>>> least_bill(HALVES, HELD, 0, (-1,))
raises Refused(('entry', 0))
'''

POLYS = r'''
>>> [poly_product(1, {(0,): 1, (1,): 2}, {(1,): 3}), poly_join(2, {(1, 0): 2}, {(1, 0): 1, (0, 1): 4}), poly_at(2, {(1, 1): 2, (0, 0): 1}, (3, 4))]
[{(1,): 3, (2,): 6}, {(0, 1): 4, (1, 0): 2}, 25]
>>> DOWN, NONE = System((("f", 1),), ((0, 0, ((-1, 1),), 1, ((0, ((-1, 1),)),), (0, 0, 0)),)), ((((),), ((),)))
>>> TREE, SIZES = ((((0, 0),), (((0, 0), (((-1, 1),), ((1, 0, 0), (1, 0, 1)))),), ()),), ((("led", (0, 1), (1, 1, 0), (1, 1, 2)),),)
>>> [bound(DOWN, NONE, TREE, SIZES, ("cost",)), bound(DOWN, NONE, TREE, SIZES, ("size", (0, 0), 0)), steps_at_most(DOWN, NONE, TREE, SIZES, (4,))]
[('within', {(1,): 1}), ('within', {(1,): 1}), ('steps', 7)]
>>> bound(DOWN, NONE, TREE, ((("outside",),),), ("size", (0, 0), 0))
('refused', (('size', (0, 0), 0),))
'''

RINGS = r'''
>>> GROW = System((("f", 2),), ((0, 1, ((0, 1, 0, 0), (-1, 0, 0, 1)), 1, ((0, ((0, 1, 0, 0), (0, 0, 1, 1))),), (0, 0, 0, 0, 0)),))
>>> RING = ((0, ((1, 0, 0),)),)
>>> [is_ring(GROW, RING), round_of(GROW, RING), shift_of(GROW, RING), first_break(GROW, RING, (3, 0)), first_break(GROW, RING, (-3, 0))]
[True, (((0, 1, 0), (0, 0, 0)), ((0, 1, 0), (1, 0, 1))), (0, 1), None, (0, 0)]
>>> DOWN = System((("f", 1),), ((0, 0, ((-2, 1),), 1, ((0, ((-3, 1),)),), (0, 0, 0)),))
>>> [first_break(DOWN, ((0, ()),), (10,)), rounds_from(DOWN, ((0, ()),), (10,), 2), ever_or_break(DOWN, (10,), (), ((0, ()),))]
[(3, 0), (2, None), ('breaks', 3, 0)]
>>> word, paper = ever_or_break(GROW, (3, 0), (), RING)
>>> [word, is_ever(GROW, paper), len(ever_choices(GROW, paper, 5)), is_ever(GROW, ((3, 0), (), RING, ((0, 1, 0),), ((1, 0, 1), (1, 0, 0), (1, 0, 1))))]
['ever', True, 5, True]
'''

COUNTERS = r'''
>>> PAIR = System((("f", 2), ("g", 2)), ((0, 0, ((0, 1, 0), (0, 0, 1)), 1, ((1, ((-2, 1, 0), (1, 0, 1))),), (0, 0, 0, 0)), (1, 0, ((0, 1, 0), (0, 0, 1)), 1, ((0, ((2, 1, 0), (-1, 0, 1))),), (0, 0, 0, 0)), (0, 0, ((0, 1, 0), (-1, 0, 1)), 1, ((0, ((0, 1, 0), (-1, 0, 1))),), (0, 0, 0, 0))))
>>> [are_counters(PAIR), moves(PAIR), is_turns(PAIR, ((0, 1), (1, 1))), is_turns(PAIR, ((0, 1), (1, 1), (2, 1))), need_of(PAIR, (0, 1)), need_of(PAIR, (1, 0))]
[True, (0, 1, 2), True, False, (2, 0), (0, 1)]
>>> [turns_or_shelves(PAIR)[0], sorted(walk_of(PAIR, ((0, 1), (1, 1)))), walk_ring(PAIR, (0, 1))]
['turns', [0, 1], ((0, ()), (1, ()))]
>>> LESS = System((("f", 1),), ((0, 0, ((-1, 1),), 1, ((0, ((-1, 1),)),), (0, 0, 0)),))
>>> [turns_or_shelves(LESS)[0], is_shelf_tree(LESS, (((0,), ((1,), (0,)), ()),)), is_shelf_tree(LESS, ()), is_shelf_tree(LESS, (((0,), ((0,), (5,)), ()),))]
['shelves', True, False, False]
'''

COSTS = r'''
>>> TWICE = System((("f", 1),), ((0, 0, ((-1, 1),), 1, ((0, ((-1, 1),)), (0, ((-1, 1, 0),))), (0, 0, 0, 0)), (0, 0, ((0, -1),), 1, (), (0, 0))))
>>> [exact_cost(TWICE, (10,), 0)[:2], entered_calls(TWICE, (2,), 0), is_table(TWICE, (0,), 0, {(0, (0,)): (0, 1, 1)})]
[('most', 2047), ((0, (0,)), (0, (1,)), (0, (2,))), True]
>>> exact_cost(System((("f", 0),), ((0, 0, (), 0, ((0, ()),), (0, 0)),)), (), 0)[0]
'round'
'''

CLAIMS = r'''
>>> DOWN = System((("f", 1),), ((0, 0, ((-1, 1),), 1, ((0, ((-1, 1),)),), (0, 0, 0)), (0, 0, ((0, -1),), 0, (), (0, 0))), ((0, 1),))
>>> HELD, SUMS = ((((0, 1),),), ((),)), ((1, 0, 0, 1), (1, 0, 1))
>>> TREE = ((((0, 0),), (((0, 0), (((0, 1),), ((1, 0, 0, 0), (1, 0, 1, 0)))),), ()),)
>>> [takes(("holds", DOWN, 0, 0, (0, 1)), (HELD, SUMS)), takes(("ends", DOWN), (HELD, SUMS, ((0, 0),), (), TREE)), opposite(("ends", DOWN))[0]]
[True, True, 'for ever']
>>> [takes(("more", DOWN, (3,), 2), ((0, ()), (0, ()), (0, ()))), takes(("more", DOWN, (3,), 3), ((0, ()), (0, ()), (0, ()))), takes(("chosen", DOWN, 1), ((0,), ((1, ()),)))]
[True, False, True]
>>> [is_claim(("at most", DOWN, (-1,), 5)), is_claim(("holds", DOWN, 1, 0, (0, 1))), takes(("bar", 1, ((-1, 1), (0, -1))), (1, 1)), len(kinds())]
[False, False, True, 25]
'''

ANSWERS = r'''
>>> TWICE = System((("f", 1),), ((0, 0, ((-2, 1),), 1, ((0, ((-1, 1),)), (0, ((-2, 1, 0),))), (0,) * 4), (0, 0, ((1, -1),), 1, (), (0, 0))), ((0, 1),))
>>> [survey(TWICE, empty_keep(TWICE)), len(ending(TWICE, empty_keep(TWICE))), priced(TWICE, empty_keep(TWICE), (3,))]
[{'bill': 'cropped', 'bound': 'refused', 'ending': 'ends'}, 1, ()]
>>> ONCE = System((("f", 1),), ((0, 0, ((-1, 1),), 2, ((0, ((-1, 1),)),), (0,) * 3), (0, 0, ((0, 1),), 1, (), (0, 0))), ((0, 1),))
>>> ROWS = ((((0, 1),),), ((),))
>>> [survey(ONCE, ROWS), [claim[0] for claim, paper in priced(ONCE, ROWS, (3,))], priced(ONCE, ROWS, (3,))[1][0][3]]
[{'bill': 'billed', 'bound': 'within', 'ending': 'ends'}, ['least', 'at most'], 7]
>>> RISE = System((("f", 1),), ((0, 1, ((0, 1, 0), (0, 0, 1)), 1, ((0, ((0, 1, 1),)),), (0,) * 4),), ((0, 1),))
>>> [survey(RISE, ROWS), gone_round(RISE, (2,), (), 1)[0][0][0], gone_round(ONCE, (2,), (), 2)]
[{'bill': 'cropped', 'bound': 'open', 'ending': 'stays'}, 'for ever', None]
'''
