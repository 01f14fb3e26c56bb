"""The examples of the document that the package can run so far, sign by sign.

Of stages that are not written yet only the systems stand here: the document
makes them, so they have no fault.
"""

FORMS = r'''
>>> [value_at((3, -1, 2), (1, 4, 5)), value_at((3, -1, 2), (2, 4, 5)), value_at((3, -1, 2), (0, 1, 0)), lowest((4, 6, -2)), opposite((3, -1))]
[9, 12, -1, (2, 3, -1), (-4, 1)]
>>> [put_in((1, 2, -1), ((0, 1), (5, -3)), 1), moved((7, 1, 2), (2, 0), 3), plus((1, 2), (3, -2)), times(-2, (1, 0, 4))]
[(-4, 5), (7, 2, 0, 1), (4, 0), (-2, 0, -8)]
>>> [form_text((3, -1, 2), ("x", "n")), form_text((-1, 0, 1), ("x", "n")), form_text((0, 0, 0), ("x", "n")), form_text((-4,), ())]
['-x + 2 n + 3', 'n - 1', '0', '-4']
'''

ROWS = r'''
>>> RAY, SHUT = ((-3, 1, 0), (0, -1, 2)), ((-3, 2), (1, -1))
>>> [point_or_bar(2, RAY)[0], point_or_bar(1, SHUT)[0], is_point(2, RAY, (2, 7, 4)), is_point(2, RAY, (2, 7, 3)), is_bar(1, SHUT, (1, 2)), is_bar(1, SHUT, (2, 4))]
['point', 'bar', True, False, True, True]
>>> [follows(2, RAY, (-3, 0, 2))[0], is_sum(2, RAY, (-1, 0, 1), (2, 1, 1, 1)), follows(2, RAY, (-2, 0, 1))[0], is_sum(1, SHUT, (-9, 5), (0, 1, 1, 2))]
['follows', True, 'escapes', True]
>>> [least(2, RAY, (0, 0, 1))[:2], least(2, RAY, (0, 1, -1))[0], is_fall(2, RAY, (0, 1, -1), (0, 0, 1)), bare(2, (*RAY, (-3, 0, 2)))]
[('least', (3, 2)), 'falls', True, (0, 1)]
>>> [is_solution((True, False), ((-4, 1, 1), (0, 1, -1)), (1, 2, 2)), is_clash((True, True), ((3, 1, 2),), (-1,)), solved((True, True), ((3, 1, 2),))[0]]
[True, True, 'clash']
>>> best((True, True), ((-6, 2, 3),), (0, 1, 1))[:2]
('least', (2, 1))
'''

SYSTEMS = r'''
>>> HALF = System((("half", 1),), ((0, 1, ((0, 1, -2), (1, -1, 2), (-1, 1, 0)), 1, ((0, ((0, 0, 1),)),), (1, 0, 0, 1)), (0, 0, ((0, -1),), 0, (), (0, 0))))
>>> [str(HALF), edges(HALF), arguments(HALF, (0, 0)), parts(HALF, ((0, 0),)), reached(HALF, ())]
['system of 1 functions, 2 rules', ((0, 0),), ((0, 0, 1),), ((((0, 0),),), ()), (0,)]
>>> [rows_ahead(HALF, ((((0, 1),),), (((0, 0, 1),),)), 0, 1), edge_rows(HALF, empty_keep(HALF), (0, 0))]
[(3, ((0, 1, 0, 0), (0, 1, -2, 0), (1, -1, 2, 0), (-1, 1, 0, 0), (0, 0, 0, 1))), (2, ((0, 1, -2), (1, -1, 2), (-1, 1, 0)))]
>>> system_fault((("f", 1),), ((0, 0, ((0, 1),), 0, ((0, ((0, 1, 0),)),), (0, 1)),))
('rules', 0, 'calls')
'''

RUNS = r'''
>>> RUN = run(HALF, (5,), ((0, (2,)), (0, (1,))))
>>> [str(RUN), RUN.call, RUN.pile, RUN.result]
['standing behind 2 steps, cost 2, 2 deep', (0, (1,)), ((0, (5, 2), 0), (0, (2, 1), 0)), None]
>>> END = RUN.after((0, (0,))).after((1, ()))
>>> [str(END), END.result, list(each_run(HALF, (2,), 1, 9)), is_run(HALF, (2,), ((0, (0,)),))]
['standing behind 4 steps, cost 3, ended', 3, [((0, (1,)), (0, (0,)), (1, ()))], False]
>>> [entered(HALF, (1,), ((0, (0,)),)), ended(HALF, (1,), ((0, (0,)), (1, ()))), tally(HALF, (1,), ((0, (0,)), (1, ())))]
[((None, (1,)), ((0, 0), (0,))), ((0, (0,), 0), (0, (1,), 1)), ({0: 1, 1: 1}, {(0, 0): 1})]
>>> RUN.after((0, (1,)))
raises Refused(('guard', 0))
'''

PROGRAMS = r'''
>>> HALF = "proc main n with m\n  given n >= 0\n  while n - 2 >= 0\n    pay 1\n    n = n - 2\n    m = m + 1\n  end\n  give m\nend\n"
>>> PROGRAM = read_program(HALF)
>>> [spoken(PROGRAM, (7,), (), 100), len(system_of(PROGRAM).functions), len(short(system_of(PROGRAM)).rules), program_text(PROGRAM) == HALF]
[('ended', 3, 3, 14), 6, 2, True]
>>> read_program("proc main n\n  give m\nend\n")
raises ParseError(1)
'''

FALLS = r'''
>>> DOWN = System((("f", 1),), ((0, 0, ((-1, 1),), 1, ((0, ((-1, 1),)),), (0, 0, 0)),))
>>> UP = System((("f", 1),), ((0, 0, ((0, 1),), 1, ((0, ((1, 1),)),), (0, 0, 0)),))
>>> LOT, RANK, BALANCE = ((0, 0),), (((0, 1),), ((1, 0, 0), (1, 1, 1))), ((((1, 0), (1, 0)),), (0, 1))
>>> [is_rank(DOWN, empty_keep(DOWN), LOT, (0, 0), RANK), is_balance(UP, empty_keep(UP), LOT, (0, 0), BALANCE), falling(UP, empty_keep(UP), LOT)]
[True, True, ()]
>>> most_times(DOWN, ((0, 1),), 0, (4,))
5
'''

TREES = r'''
>>> ONE, TWO = (0, 0, ((-1, 1, 0),), 1, ((0, ((-1, 1, 0), (0, 0, 1))),), (0, 0, 0, 0)), (0, 1, ((-1, 0, 1, 0),), 1, ((0, ((0, 0, 0, 1), (-1, 0, 1, 0))),), (0, 0, 0, 0, 0))
>>> PAIR, BOTH = System((("f", 2),), (ONE, TWO)), ((0, 0), (1, 0))
>>> [rounds(PAIR, empty_keep(PAIR), BOTH), left_over(PAIR, empty_keep(PAIR), BOTH)]
[{(0, 0): 2, (1, 0): 1}, ()]
>>> tree = tree_or_stay(PAIR, empty_keep(PAIR), BOTH)[1]
>>> [tree[0][0], [edge for edge, rank in tree[0][1]], is_tree(PAIR, empty_keep(PAIR), BOTH, tree)]
[((0, 0), (1, 0)), [(1, 0)], True]
'''

BILLS = r'''
>>> HALVES = System((("f", 1),), ((0, 2, ((-1, 1, 0, 0), (0, 0, 1, 0), (0, 0, 0, 1), (-1, 1, -1, -1), (1, -1, 1, 1)), 1, ((0, ((0, 0, 1, 0),)), (0, ((0, 0, 0, 1, 0),))), (0,) * 6),), ((0, 1),))
>>> TWINS = System((("f", 1),), ((0, 0, ((-1, 1),), 1, ((0, ((-1, 1),)), (0, ((-1, 1, 0),))), (0,) * 4),), ((0, 1),))
>>> HELD = ((((0, 1),),), ((),))
>>> [items_of(HALVES), item_rows(TWINS, HELD, (0, 2)), due(HALVES, 1, ((0, 1),), (0, 1))]
[((0, 1), (0, 2)), (2, ((0, 1, 0), (-1, 1, 0))), (-1, 1, -1, 0)]
>>> BILL = ("bill", 1, ((0, 1),), ((1, 0, 1),), ((1, 0, 0, 0, 0, 1, 1, 0), (1, 0, 0, 0, 0, 0, 1, 0)))
>>> [is_bill(HALVES, HELD, BILL), billed(HALVES, HELD)[0], allowed(HALVES, HELD, BILL, 0, (7,)), spent(HALVES, (3,), ((0, (2, 0)), (0, (0, 1))))]
[True, 'bill', 7, (2, 1, 0)]
>>> [billed(TWINS, HELD)[0], is_crop(TWINS, HELD, ("crop", (None, ((1, 2, 0), (1, 2, 0))), (((1, 0), (1, 0)),)))]
['crop', True]
'''

LEAST = r'''
>>> FOUND = least_bill(HALVES, HELD, 0, (7,))
>>> [FOUND[:2], is_least_bill(HALVES, HELD, 0, (7,), FOUND), worth(HALVES, HELD, 0, (7,), FOUND[3])]
[('least', (7, 1)), True, (7, 1)]
>>> [least_bill(TWINS, HELD, 0, (3,))[0], lot_items(TWINS, ((0, 1),)), shared(TWINS, HELD, ((0, 1),))[0], shared(TWINS, HELD, ((0, 0), (0, 1)))[0]]
['crop', ((0, 2),), 'shared', 'split']
>>> visits(HALVES, (3,), ((0, (2, 0)), (0, (0, 1))), ((0, 0), (0, 1)))
(2, 1, 0)
>>> least_bill(HALVES, HELD, 0, (-1,))
raises Refused(('entry', 0))
'''

POLYS = r'''
>>> [poly_product(1, {(0,): 1, (1,): 2}, {(1,): 3}), poly_join(2, {(1, 0): 2}, {(1, 0): 1, (0, 1): 4}), poly_at(2, {(1, 1): 2, (0, 0): 1}, (3, 4))]
[{(1,): 3, (2,): 6}, {(0, 1): 4, (1, 0): 2}, 25]
'''

LATER = r'''
>>> GROW = System((("f", 2),), ((0, 1, ((0, 1, 0, 0), (-1, 0, 0, 1)), 1, ((0, ((0, 1, 0, 0), (0, 0, 1, 1))),), (0, 0, 0, 0, 0)),))
>>> DOWN = System((("f", 1),), ((0, 0, ((-2, 1),), 1, ((0, ((-3, 1),)),), (0, 0, 0)),))
>>> PAIR = System((("f", 2), ("g", 2)), ((0, 0, ((0, 1, 0), (0, 0, 1)), 1, ((1, ((-2, 1, 0), (1, 0, 1))),), (0, 0, 0, 0)), (1, 0, ((0, 1, 0), (0, 0, 1)), 1, ((0, ((2, 1, 0), (-1, 0, 1))),), (0, 0, 0, 0)), (0, 0, ((0, 1, 0), (-1, 0, 1)), 1, ((0, ((0, 1, 0), (-1, 0, 1))),), (0, 0, 0, 0))))
>>> LESS = System((("f", 1),), ((0, 0, ((-1, 1),), 1, ((0, ((-1, 1),)),), (0, 0, 0)),))
>>> TWICE = System((("f", 1),), ((0, 0, ((-1, 1),), 1, ((0, ((-1, 1),)), (0, ((-1, 1, 0),))), (0, 0, 0, 0)), (0, 0, ((0, -1),), 1, (), (0, 0))))
>>> DOWN = System((("f", 1),), ((0, 0, ((-1, 1),), 1, ((0, ((-1, 1),)),), (0, 0, 0)), (0, 0, ((0, -1),), 0, (), (0, 0))), ((0, 1),))
>>> TWICE = System((("f", 1),), ((0, 0, ((-2, 1),), 1, ((0, ((-1, 1),)), (0, ((-2, 1, 0),))), (0,) * 4), (0, 0, ((1, -1),), 1, (), (0, 0))), ((0, 1),))
>>> ONCE = System((("f", 1),), ((0, 0, ((-1, 1),), 2, ((0, ((-1, 1),)),), (0,) * 3), (0, 0, ((0, 1),), 1, (), (0, 0))), ((0, 1),))
>>> RISE = System((("f", 1),), ((0, 1, ((0, 1, 0), (0, 0, 1)), 1, ((0, ((0, 1, 1),)),), (0,) * 4),), ((0, 1),))
'''
