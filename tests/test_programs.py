import unittest

from fallorflow.texts.programs import WORDS, is_program
from tests.values import Refusing, near_lots, near_misses, strange

MOST = 100000


def program(*body, parameters=("x",), inner=("y",), given=(), more=()):
    return ((("main", parameters, inner, body), *more), given)


def deep(many, last=("pay", 0)):
    """Statements one in the other: bodies stand so many deep, that of the procedure being the first."""
    found = last
    for _ in range(many - 1):
        found = ("while", ((0, 1, 0),), (found,))
    return program(found)


class ProgramsTest(Refusing, unittest.TestCase):
    def yes(self, value):
        self.is_just(True, is_program(value), repr(value)[:300])

    def no(self, value):
        self.is_just(False, is_program(value), repr(value)[:300])

    def all_wrong(self, around, values):
        for value in values:
            self.no(program(around(value)))

    def test_shapes(self):
        self.yes(program())
        self.yes(((("a", (), (), ()),), ()))
        right = program(("pay", 1))
        for value in [*strange(), list(right), right[:1], (*right, ()), (list(right[0]), ()), (right[0], []), ((), ()), {0: right[0]}]:
            self.no(value)
        head = right[0][0]
        for value in [*strange(), list(head), head[:3], (*head, ())]:
            self.no(((value,), ()))
            self.no(((head, value), ()))

    def test_procedures(self):
        heads = tuple((name, (), (), ()) for name in ("a", "b", "c", "d", "e", "f", "g"))
        self.yes((heads[:6], ()))
        self.no((heads, ()))
        self.no(((heads[0], heads[1], heads[0]), ()))
        for name in ["", "abcdefghi", "A", "a1", None, ("a",), *WORDS, *[value for value in strange() if value != "a"]]:
            self.no((((name, (), (), ()),), ()))
            self.no((heads[:1] + (("z", (name,), (), ()),), ()))
            self.no((heads[:1] + (("z", (), ("x", name), ()),), ()))
        self.assertEqual(len(WORDS), 15)
        self.yes(((("abcdefgh", ("proceed",), ("main", "x"), ()),), ()))

    def test_variables(self):
        for parameters, inner in [(("a",) * 2, ()), (("a",), ("a",)), (tuple("abc"), tuple("def")), (["a"], ()), ((), ["a"]), ("a", ()), ((), "a")]:
            self.no((((("m"), parameters, inner, ()),), ()))
        self.yes(program(parameters=tuple("abcde"), inner=()))
        self.yes(program(parameters=(), inner=tuple("abcd")))
        self.no(program(parameters=(), inner=tuple("abcde")))
        self.yes((program()[0] + (("m", (), tuple("abcde"), ()),), ()))

    def test_given(self):
        self.yes(program(given=((1, 2),) * 6))
        self.no(program(given=((1, 2),) * 7))
        self.yes(program(inner=(), given=((1, 2),) * 8))
        self.no(program(inner=(), given=((1, 2),) * 9))
        self.yes(program(given=((MOST, -MOST),)))
        for value in [*near_lots(((1, 2),)), ((1, 2, 3),), ((1,),), ((MOST + 1, 0),), ((0, -MOST - 1),), *strange()]:
            if value != ():
                self.no(program(given=value))

    def test_set(self):
        self.yes(program(("set", 1, (MOST, -MOST, 1)), ("set", 0, (1, 2, 3))))
        three = {"parameters": ("x", "y"), "inner": ("z",)}
        self.yes(program(("set", 2, (0, 0, 0, 1)), ("any", 0, ((1, 2, 3, 4),)), **three))
        self.no(program(("set", 3, (0, 0, 0, 1)), **three))
        self.no(program(("set", 2, (0, 0, 1)), **three))
        self.all_wrong(lambda form: ("set", 0, form), [*near_misses((1, 2, 3)), (1, 2), (1, 2, 3, 4), (0, MOST + 1, 0), *strange()])
        self.all_wrong(lambda at: ("set", at, (1, 2, 3)), [-1, 2, *strange()])
        self.no(program(("set", 0)))
        self.no(program(("set", 0, (1, 2, 3), 0)))
        self.no(program(("set", 0, (1,)), parameters=(), inner=()))

    def test_any(self):
        test = (1, 2, 3)
        for count in (0, 1, 4):
            self.yes(program(("any", 1, (test,) * count)))
        self.all_wrong(lambda tests: ("any", 0, tests), [(test,) * 5, *near_lots((test,)), *[value for value in strange() if value != ()]])
        self.all_wrong(lambda at: ("any", at, ()), [-1, 2, *strange()])
        self.no(program(("any", 0)))

    def test_pay_and_give(self):
        self.yes(program(("pay", 0), ("pay", 1000), ("give", (1, 2, 3)), ("pay", 1)))
        self.all_wrong(lambda cost: ("pay", cost), [-1, 1001, *strange()])
        self.all_wrong(lambda form: ("give", form), [*near_misses((1, 2, 3)), (1, 2), *strange()])
        self.no(program(("pay",)))
        self.no(program(("give", (1, 2, 3), 1)))

    def test_if_and_while(self):
        test = (1, 2, 3)
        for count in (1, 2, 3, 4):
            self.yes(program(("if", (test,) * count, (), ())))
            self.yes(program(("while", (test,) * count, (("pay", 0),))))
        self.all_wrong(lambda tests: ("if", tests, (), ()), [(), (test,) * 5, *near_lots((test,)), *strange()])
        self.all_wrong(lambda tests: ("while", tests, ()), [(), (test,) * 5, *near_lots((test,)), *strange()])
        wrong = [(None,), ["pay", 0], [("pay", 0)], ("pay", 0), (("pay", 0), None), *[value for value in strange() if value != ()]]
        self.all_wrong(lambda body: ("if", (test,), body, ()), wrong)
        self.all_wrong(lambda body: ("if", (test,), (), body), wrong)
        self.all_wrong(lambda body: ("while", (test,), body), wrong)
        self.all_wrong(lambda body: ("choose", ((), body)), wrong)
        self.no(program(("if", (test,), ())))
        self.no(program(("while", (test,))))
        self.no(program(("while", (test,), (), ())))

    def test_choose(self):
        for count in (2, 3, 4):
            self.yes(program(("choose", ((),) * count)))
        self.all_wrong(lambda bodies: ("choose", bodies), [(), ((),), ((),) * 5, [(), ()], {0: (), 1: ()}, *strange()])
        self.no(program(("choose", (), ())))
        self.no(program(("choose", ((), ()), ())))

    def test_call(self):
        more = (("f", ("a", "b"), ("c",), ()), ("g", (), (), ()))
        form = (1, 2, 3)
        self.yes(program(("call", 1, (form, form), 1), ("call", 2, (), None), ("call", 0, (form,), 0), more=more))
        wrong = [("call", 1, (form,), 0), ("call", 1, (form,) * 3, 0), ("call", 1, [form, form], 0), ("call", 1, (form, (1, 2)), 0),
                 ("call", 3, (), 0), ("call", -1, (), 0), ("call", True, (form, form), 0), ("call", 2, (), 2), ("call", 2, (), -1),
                 ("call", 2, (), True), ("call", 2, ()), ("call", 2, (), 0, 0), ("call", "g", (), 0)]
        wrong.extend([("call", value, (), 0) for value in strange()])
        wrong.extend([("call", 2, value, 0) for value in strange() if value != ()])
        wrong.extend([("call", 2, (), value) for value in strange() if value is not None])
        for word in ("stop", "set", "choose", "", "CALL", None, ("call",)):
            wrong.append((word, 2, (), None))
        for statement in wrong:
            self.no(program(statement, more=more))

    def test_statements(self):
        self.all_wrong(lambda value: value, [*strange(), ("stop",), ("end",), ("give",), [("pay", 0)], ["pay", 0], (None, 0), (0, "pay")])

    def test_depth(self):
        self.yes(deep(6))
        self.no(deep(7))
        self.no(deep(6, ("if", ((0, 1, 0),), (), ())))
        self.no(deep(6, ("choose", ((), ()))))
        self.yes(deep(5, ("choose", ((), ()))))

    def test_places(self):
        self.yes(program(*[("pay", 0)] * 39))
        self.no(program(*[("pay", 0)] * 40))
        inner = ("while", ((0, 1, 0),), (("pay", 0),) * 3)
        self.yes(program(*[inner] * 9, ("pay", 0), ("pay", 0), more=(("f", (), (), ()),)))
        self.no(program(*[inner] * 9, ("pay", 0), ("pay", 0), ("pay", 0), more=(("f", (), (), ()),)))

    def test_rules(self):
        # A `while` with four tests is led to five rules, a procedure's end to one.
        four = ("while", ((0, 1, 0),) * 4, ())
        self.yes(program(*[four] * 15, *[("pay", 0)] * 4))
        self.no(program(*[four] * 15, *[("pay", 0)] * 5))
        self.yes(program(*[("choose", ((),) * 4)] * 19, *[("pay", 0)] * 3))
        self.no(program(*[("choose", ((),) * 4)] * 19, *[("pay", 0)] * 4))

    def test_bodies_that_come_in_many_places(self):
        body = ()
        for _ in range(5):
            body = (("choose", (body,) * 4),) * 30
        # Nothing of this can be shown: written out it would never end.
        self.assertIs(is_program(program(*body)), False)
