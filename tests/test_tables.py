import inspect
import random
import unittest

import drawing
from onlyasked import tables
from onlyasked.errors import BadAnswers, BadTable, Clash, OtherSources
from onlyasked.programs import Program
from onlyasked.tables import alike, by_table, merged, shows_unlike, table
from onlyasked.worlds import evaluate, is_world
from samples import BOTH, LOAN, any_values, raised, same

BOTH_PROGRAM, LOAN_PROGRAM = Program(BOTH), Program(LOAN)
BOTH_TABLE = ("a.x", (((False,), "refuse"), ((True,), ("b.x", (((False,), "refuse"), ((True,), "grant"))))))
LOAN_WITHOUT_MARKET = LOAN.replace("\nsource market price 1 stay 0 common\n  open yes", "").replace(" and market.open",
    "")
MIXED = ("round 0\nsource a price 1\n  n 0..9\n  w lo mid hi far\n  b yes\nsource m price 1 maybe\n  x yes\n  k -2..2\n"
         "source c price 1\n  x yes\n")


def with_rules(*lines):
    return Program(MIXED + "\n".join([*lines, "otherwise halt"]))


def outcome(program, answers):
    return evaluate(program, answers)[0] if is_world(program, answers) else None


class Naive:
    """The one table over the sources of a program for any function of answers, by the words of point 12 alone."""

    def __init__(self, program, tells):
        self.parts = program.parts
        self.tells = tells

    def whole(self):
        return self.behind((), ())

    def behind(self, answers, values):
        """The table behind whole answers, and behind some values of the next answer."""
        if len(answers) == len(self.parts):
            return self.tells(answers)
        part = self.parts[len(answers)]
        if part.maybe and values == ():
            gone, there = self.behind((*answers, None), ()), self.fields(answers, ())
            return gone if gone == there else (part.name, (((False,), gone), ((True,), there)))
        return self.fields(answers, values)

    def fields(self, answers, values):
        part = self.parts[len(answers)]
        if len(values) == len(part.fields):
            return self.behind((*answers, values), ())
        field = part.fields[len(values)]
        found = [(value, self.fields(answers, (*values, value))) for value in drawing.values_of(field)]
        branches = []
        for value, further in found:
            same_ones = [at for at, branch in enumerate(branches) if branch[1] == further]
            if field.kind == "integer":
                same_ones = [at for at in same_ones if at == len(branches) - 1]
            if same_ones:
                branches[same_ones[0]][0].append(value)
            else:
                branches.append(([value], further))
        if len(branches) == 1:
            return branches[0][1]
        ends = field.kind == "integer"
        return (field.name, tuple(((values[0], values[-1]) if ends else tuple(values), further) for values,
                                  further in branches))


def naive(program):
    return Naive(program, lambda answers: outcome(program, answers)).whole()


def told_by(program, value, answers):
    """What a value tells for answers; ValueError if it does not look like a table."""
    told = {}
    for part, answer in zip(program.parts, answers):
        if part.maybe:
            told[part.name] = answer is not None
        for field, one in zip(part.fields, answer or ()):
            told[field.name] = one
    numbers = [field.name for part in program.parts for field in part.fields if field.kind == "integer"]
    while isinstance(value, tuple):
        name, branches = value
        if name not in told or not isinstance(branches, tuple):
            raise ValueError
        fits = [further for values, further in branches
                if (values[0] <= told[name] <= values[1] if name in numbers else told[name] in values)]
        if len(fits) != 1:
            raise ValueError
        value = fits[0]
    if not isinstance(value, str) and value is not None:
        raise ValueError
    return value


def is_canonical(program, value):
    """Whether what looks like a table is the one table of what it tells."""
    try:
        return same(Naive(program, lambda answers: told_by(program, value, answers)).whole(), value)
    except (ValueError, TypeError, IndexError):
        return False


def is_table(program, value):
    """Whether by_table takes a value; it tells so ahead of bad answers."""
    try:
        by_table(program, value, None)
    except BadTable as error:
        assert error.value is value
        return False
    except BadAnswers:
        return True
    raise AssertionError


def replaced(value, at, part):
    return (*value[:at], part, *value[at + 1:])


class NamesTest(unittest.TestCase):
    NAMES = {"alike": ["one", "other"], "shows_unlike": ["one", "other", "value"], "table": ["program"],
             "by_table": ["program", "value", "answers"], "merged": ["base", "one", "other"]}

    def test_they_are_defined_here(self):
        for name, parameters in self.NAMES.items():
            self.assertEqual(getattr(tables, name).__module__, "onlyasked.tables")
            self.assertEqual(list(inspect.signature(getattr(tables, name)).parameters), parameters)

    def test_arguments_by_name(self):
        self.assertIsNone(alike(other=BOTH_PROGRAM, one=BOTH_PROGRAM))
        self.assertIs(shows_unlike(value=None, other=BOTH_PROGRAM, one=BOTH_PROGRAM), False)
        self.assertEqual(table(program=BOTH_PROGRAM), BOTH_TABLE)
        self.assertEqual(by_table(answers=((True,), (True,)), value=BOTH_TABLE, program=BOTH_PROGRAM), "grant")
        self.assertEqual(merged(other=BOTH_PROGRAM, one=BOTH_PROGRAM, base=BOTH_PROGRAM), BOTH_TABLE)


class TableTest(unittest.TestCase):
    def test_the_example(self):
        self.assertTrue(same(table(BOTH_PROGRAM), BOTH_TABLE))

    def test_loan_without_its_market(self):
        found = table(Program(LOAN_WITHOUT_MARKET))
        self.assertEqual(found[0], "person.age")
        self.assertEqual([values for values, _ in found[1]], [(0, 13), (14, 17), (18, 120)])
        young, middle, old = [further for _, further in found[1]]
        self.assertEqual(young, ("work", (((False,), "refuse"), ((True,), None))))
        self.assertEqual(middle, "refuse")
        self.assertEqual(old[0], "person.home")
        rich = ("work.income", (((0, 2999), "look"), ((3000, 9999), "grant")))
        self.assertEqual(old[1][0], (("inside",), ("work", (((False,), "look"), ((True,), rich)))))
        fixed = ("work.fixed", (((False,), "look"), ((True,), "grant")))
        rich = ("work.income", (((0, 2999), "look"), ((3000, 9999), fixed)))
        self.assertEqual(old[1][1], (("outside",), ("work", (((False,), "look"), ((True,), rich)))))

    def test_loan(self):
        """The market comes last, and is asked for only where it matters."""
        found = table(LOAN_PROGRAM)
        self.assertEqual([values for values, _ in found[1]], [(0, 13), (14, 17), (18, 120)])
        self.assertEqual(found[1][1], ((14, 17), "refuse"))
        market = ("market.open", (((False,), "look"), ((True,), "grant")))
        rich = ("work.income", (((0, 2999), "look"), ((3000, 9999), market)))
        self.assertEqual(found[1][2][1][1][0][1], ("work", (((False,), "look"), ((True,), rich))))

    def test_an_outcome_alone(self):
        self.assertEqual(table(with_rules("decide go if a.n > 5 and not a.n > 5")), "halt")
        self.assertEqual(table(with_rules("decide go if there m or not there m")), "go")
        self.assertEqual(table(with_rules("decide halt if a.n > 5")), "halt")

    def test_ranges(self):
        for rule, expected in (
            ("a.n > 4", (((0, 4), "halt"), ((5, 9), "go"))), ("a.n < 4", (((0, 3), "go"), ((4, 9), "halt"))),
            ("a.n = 4", (((0, 3), "halt"), ((4, 4), "go"), ((5, 9), "halt"))),
            ("a.n = 0", (((0, 0), "go"), ((1, 9), "halt"))),
            ("a.n = 9", (((0, 8), "halt"), ((9, 9), "go"))), ("a.n > 8", (((0, 8), "halt"), ((9, 9), "go"))),
            ("a.n = 4 or a.n = 5", (((0, 3), "halt"), ((4, 5), "go"), ((6, 9), "halt"))),
            ("a.n = 4 or a.n = 6", (((0, 3), "halt"), ((4, 4), "go"), ((5, 5), "halt"), ((6, 6), "go"),
                                    ((7, 9), "halt"))),
            ("a.n > 2 and a.n < 6", (((0, 2), "halt"), ((3, 5), "go"), ((6, 9), "halt"))),
        ):
            with self.subTest(rule):
                self.assertTrue(same(table(with_rules(f"decide go if {rule}")), ("a.n", expected)))
        for rule, outcome_told in (("a.n > 9", "halt"), ("a.n > -1", "go"), ("a.n = 10", "halt"), ("a.n < 0", "halt")):
            self.assertEqual(table(with_rules(f"decide go if {rule}")), outcome_told)

    def test_ranges_at_the_bounds_of_integers(self):
        program = Program("round 0\nsource a price 1\n  n -1000000..1000000\n"
                          "decide go if a.n = -1000000 or a.n > 999999\notherwise halt")
        ends = (((-1000000, -1000000), "go"), ((-999999, 999999), "halt"), ((1000000, 1000000), "go"))
        self.assertTrue(same(table(program), ("a.n", ends)))
        self.assertEqual(table(Program("round 0\nsource a price 1\n  n 7..7\ndecide go if a.n = 7\notherwise halt")),
                         "go")

    def test_words(self):
        for rule, expected in (
            ("a.w = mid", ((("lo", "hi", "far"), "halt"), (("mid",), "go"))),
            ("a.w = lo", ((("lo",), "go"), (("mid", "hi", "far"), "halt"))),
            ("a.w in (far, lo)", ((("lo", "far"), "go"), (("mid", "hi"), "halt"))),
            ("a.w in (hi, hi)", ((("lo", "mid", "far"), "halt"), (("hi",), "go"))),
        ):
            with self.subTest(rule):
                self.assertTrue(same(table(with_rules(f"decide go if {rule}")), ("a.w", expected)))
        three = table(with_rules("decide go if a.w = far", "decide stop if a.w in (mid, lo)"))
        self.assertEqual(three, ("a.w", ((("lo", "mid"), "stop"), (("hi",), "halt"), (("far",), "go"))))
        self.assertEqual(table(with_rules("decide go if a.w in (far, mid, hi, lo)")), "go")

    def test_maybe_sources(self):
        there = ("m", (((False,), "halt"), ((True,), "go")))
        self.assertTrue(same(table(with_rules("decide go if there m")), there))
        fields = ("m", (((False,), "halt"), ((True,), ("m.k", (((-2, 0), "halt"), ((1, 2), "go"))))))
        self.assertTrue(same(table(with_rules("decide go if m.k > 0")), fields))
        self.assertEqual(table(with_rules("decide go if not m.x")),
                         ("m", (((False,), "go"), ((True,), ("m.x", (((False,), "go"), ((True,), "halt")))))))
        later = table(with_rules("decide go if not there m and c.x or m.x"))
        self.assertEqual(later, ("m", (((False,), ("c.x", (((False,), "halt"), ((True,), "go")))),
                                       ((True,), ("m.x", (((False,), "halt"), ((True,), "go")))))))

    def test_givens(self):
        self.assertEqual(table(with_rules("given c.x")), ("c.x", (((False,), None), ((True,), "halt"))))
        self.assertEqual(table(with_rules("given there m", "given m.x")),
                         ("m", (((False,), None), ((True,), ("m.x", (((False,), None), ((True,), "halt")))))))
        found = table(with_rules("given a.n > 3", "decide go if a.n < 6"))
        self.assertEqual(found, ("a.n", (((0, 3), None), ((4, 5), "go"), ((6, 9), "halt"))))

    def test_rows_do_not_matter(self):
        program = with_rules("decide go if a.b", "decide go if c.x", "decide halt if a.n > 3")
        self.assertEqual(table(program),
                         ("a.b", (((False,), ("c.x", (((False,), "halt"), ((True,), "go")))), ((True,), "go"))))

    def test_drawn_programs(self):
        draw = random.Random(21)
        for _ in range(250):
            program = drawing.program(draw, 1, 3)
            found = table(program)
            self.assertTrue(same(found, naive(program)))
            self.assertTrue(same(found, table(Program(program.text))))
            for answers in drawing.all_answers(program):
                self.assertEqual(by_table(program, found, answers), outcome(program, answers))

    def test_great_programs(self):
        """Eight fields with two marks each, and all 25 tests."""
        lines = ["round 0"]
        for name in "abcde":
            lines += [f"source {name} price 1 maybe", "  x yes", "  n 0..9", "  y yes", "  w lo hi"]
        program = Program("\n".join([*lines, "decide go if there a and not there e", "otherwise halt"]))
        self.assertEqual(table(program),
                         ("a", (((False,), "halt"), ((True,), ("e", (((False,), "go"), ((True,), "halt")))))))
        lines = ["round 0"] + [line for name in "ab" for line in
                               (f"source {name} price 1", "  n 0..9", "  m 0..9", "  k 0..9", "  l 0..9")]
        names = [f"{name}.{field}" for name in "ab" for field in "nmkl"]
        odd = f"points({', '.join(f'{2 ** at % 7 + 1} {name} = 5' for at, name in enumerate(names))})"
        program = Program("\n".join([*lines, f"decide go if {odd} > 11", f"decide stop if {odd} = 7",
                                     "otherwise halt"]))
        found = table(program)
        draw = random.Random(22)
        for _ in range(300):
            answers = tuple(tuple(draw.choice((4, 5, 6, draw.randint(0, 9))) for _ in range(4)) for _ in range(2))
            self.assertEqual(by_table(program, found, answers), outcome(program, answers))


class IsTableTest(unittest.TestCase):
    def test_outcomes(self):
        for value in ("go", "halt", "a", "abcdefghijkl", None):
            self.assertTrue(is_table(BOTH_PROGRAM, value))
        for value in ("", "abcdefghijklm", "Go", "go1", "go go", "no", "yes", "none", "otherwise", "true", "in", "g\n"):
            self.assertFalse(is_table(BOTH_PROGRAM, value))

    def test_any_value(self):
        for value in any_values():
            with self.subTest(repr(value)[:40]):
                self.assertEqual(is_table(BOTH_PROGRAM, value), value is None or same(value, "a"))
                self.assertFalse(is_table(BOTH_PROGRAM, (value, BOTH_TABLE[1])))
                self.assertFalse(is_table(BOTH_PROGRAM, ("a.x", value)))
                self.assertFalse(is_table(BOTH_PROGRAM, ("a.x", (value, BOTH_TABLE[1][1]))))
                self.assertFalse(is_table(BOTH_PROGRAM, ("a.x", (BOTH_TABLE[1][0], value))))
                self.assertFalse(is_table(BOTH_PROGRAM, ("a.x", ((value, "go"), ((True,), "halt")))))
                self.assertFalse(is_table(BOTH_PROGRAM, ("a.x", (((False,), "go"), (value, "halt")))))
                self.assertFalse(is_table(BOTH_PROGRAM,
                                          ("a.x", (((value,), "go"), ((True,), "halt")))) and value is not False)
                self.assertFalse(is_table(BOTH_PROGRAM,
                                          ("a.x", (((False,), "go"), ((value,), "halt")))) and value is not True)
                branch = ("a.x", (((False,), value), ((True,), "halt")))
                self.assertEqual(is_table(BOTH_PROGRAM, branch), value is None or same(value, "a"))

    def test_bools(self):
        for values in (
            ((False,), (True,)), ((True,), (False,)), ((False,),), ((True,),), ((0,), (1,)), ((False,), (1,)),
            ((0,), (True,)),
            (False, True), ([False], [True]), ((False, True),), ((False, False), (True, True)),
            ((False,), (True,), (True,)),
            ((False,), (False,)), ((), (True,)), ((False, True), (True, False)), (("no",), ("yes",)),
        ):
            value = ("a.x", tuple((one, f"o{'abc'[at]}") for at, one in enumerate(values)))
            with self.subTest(values):
                self.assertEqual(is_table(BOTH_PROGRAM, value), values == ((False,), (True,)) and values[0][0] is False
                                 and values[1][0] is True)

    def test_ranges(self):
        program = with_rules()
        for ranges, right in (
            (((0, 4), (5, 9)), True), (((0, 0), (1, 8), (9, 9)), True), (((0, 9),), False), (((0, 4), (6, 9)), False),
            (((0, 5), (5, 9)), False), (((0, 4), (5, 8)), False), (((1, 4), (5, 9)), False), (((0, 4), (5, 10)), False),
            (((-1, 4), (5, 9)), False), (((5, 9), (0, 4)), False), (((0, 4), (5, 4), (5, 9)), False),
            (((0, -1), (0, 9)), False),
            (((0, 4), (5, 9), (10, 10)), False), (((False, 4), (5, 9)), False), (((0, True), (2, 9)), False),
            (((0, 4), [5, 9]), False), (((0, 4), (5, 9, 9)), False), (((0, 4), (5,)), False),
            (((0, 4), ("5", "9")), False),
            (((0, 4), None), False), ((), False), (((0, 4), (5, 9), (10, 9)), False),
        ):
            value = ("a.n", tuple((one, f"o{'abc'[at]}") for at, one in enumerate(ranges)))
            with self.subTest(ranges):
                self.assertEqual(is_table(program, value), right)

    def test_neighbours_with_the_same_table(self):
        program = with_rules()
        for outcomes, right in ((("go", "go"), False), (("go", "halt", "go"), True), (("go", "halt", "halt"), False),
                                (("go", "go", "halt"), False), ((None, "go", None), True), ((None, None, "go"), False)):
            ranges = ((0, 2), (3, 4), (5, 9)) if len(outcomes) == 3 else ((0, 4), (5, 9))
            self.assertEqual(is_table(program, ("a.n", tuple(zip(ranges, outcomes)))), right)
        further = ("a.b", (((False,), "go"), ((True,), "halt")))
        other = ("a.b", (((False,), "go"), ((True,), "stop")))
        self.assertTrue(is_table(program, ("a.n", (((0, 4), further), ((5, 9), other)))))
        self.assertFalse(is_table(program,
                                  ("a.n", (((0, 4), further),
                                           ((5, 9), ("a.b", (((False,), "go"), ((True,), "halt"))))))))

    def test_words(self):
        program = with_rules()
        for sets, right in (
            ((("lo", "mid"), ("hi", "far")), True), ((("lo", "far"), ("mid", "hi")), True),
            ((("lo",), ("mid",), ("hi",), ("far",)), True),
            ((("lo",), ("hi", "far"), ("mid",)), False), ((("mid", "lo"), ("hi", "far")), False),
            ((("lo", "mid", "hi", "far"),), False),
            ((("lo", "mid"), ("hi",)), False), ((("lo", "mid", "mid"), ("hi", "far")), False),
            ((("lo", "mid"), ("mid", "hi", "far")), False),
            ((("mid", "hi", "far"), ("lo",)), False), ((("lo", "mid"), ("hi", "far"), ()), False),
            (((), ("lo", "mid", "hi", "far")), False),
            ((("lo", "mid"), ("hi", "fur")), False), ((["lo", "mid"], ["hi", "far"]), False),
            ((("lo", "mid"), ("hi", "far", "x")), False),
            (("lo", ("mid", "hi", "far")), False), ((("lo", "mid"), ("hi", "far", 3)), False),
            (("lomid", "hifar"), False),
        ):
            value = ("a.w", tuple((one, f"o{'abcd'[at]}") for at, one in enumerate(sets)))
            with self.subTest(sets):
                self.assertEqual(is_table(program, value), right)
        sets = (("lo",), ("mid",), ("hi", "far"))
        for outcomes, right in ((("go", "halt", "go"), False), (("go", "go", "halt"), False),
                                (("go", "halt", "stop"), True)):
            self.assertEqual(is_table(program, ("a.w", tuple(zip(sets, outcomes)))), right)

    def test_a_test_that_is_left_in(self):
        self.assertFalse(is_table(BOTH_PROGRAM, ("a.x", (((False,), "go"), ((True,), "go")))))
        behind = ("b.x", (((False,), "go"), ((True,), "halt")))
        self.assertFalse(is_table(BOTH_PROGRAM, ("a.x", (((False,), behind), ((True,), behind)))))
        self.assertFalse(is_table(with_rules(), ("a.n", (((0, 9), "go"),))))
        self.assertFalse(is_table(with_rules(), ("a.w", ((("lo", "mid", "hi", "far"), "go"),))))
        self.assertFalse(is_table(with_rules(), ("m", (((False,), None), ((True,), None)))))

    def test_the_sequence_of_tests(self):
        program = with_rules()

        def on(name, no, yes):
            return (name, (((False,), no), ((True,), yes)))

        for value, right in (
            (on("a.b", "go", on("c.x", "go", "halt")), True), (on("c.x", "go", on("a.b", "go", "halt")), False),
            (on("a.b", "go", on("a.b", "go", "halt")), False), (on("m", "go", on("m.x", "go", "halt")), True),
            (on("m", on("m.x", "go", "halt"), "go"), False), (on("m.x", "go", "halt"), False),
            (on("m.x", "go", on("m", "go", "halt")), False),
            (on("m", on("c.x", "go", "halt"), on("m.x", "go", on("c.x", "halt", "go"))), True),
            (on("m", "go", on("c.x", "go", on("m.x", "go", "halt"))), False),
            (on("m", "go", on("m", "go", "halt")), False),
            (on("a.b", "go", on("m.x", "go", "halt")), False), (on("a.b", "go",
                on("m", "halt", on("m.x", "go", "halt"))), True),
            (on("a", "go", "halt"), False), (on("c", "go", "halt"), False), (on("x", "go", "halt"), False),
            (on("m.z", "go", "halt"), False),
            (on("m", "go", ("m.k", (((-2, 0), on("m.x", "go", "halt")), ((1, 2), "go")))), False),
            (on("m", "go", on("m.x", "go", ("m.k", (((-2, 0), "go"), ((1, 2), "halt"))))), True),
            (on("a.n", "go", "halt"), False), (on("a.w", "go", "halt"), False),
            (on("m", ("m.k", (((-2, 0), "go"), ((1, 2), "halt"))), "stop"), False),
            (on("m", on("c.x", "go", "halt"), "stop"), True),
        ):
            with self.subTest(value):
                self.assertEqual(is_table(program, value), right)

    def test_lists_in_the_place_of_tuples(self):
        def variants(value):
            if isinstance(value, tuple):
                yield list(value)
                for at, part in enumerate(value):
                    for other in variants(part):
                        yield replaced(value, at, other)

        for program in (BOTH_PROGRAM, LOAN_PROGRAM):
            found = list(variants(table(program)))
            self.assertGreater(len(found), 11)
            for value in found:
                self.assertFalse(is_table(program, value))

    def test_parts_missing_and_added(self):
        for value in (("a.x",), ("a.x", BOTH_TABLE[1], None), ("a.x", ()), ("a.x", BOTH_TABLE[1][:1]),
                      ("a.x", (*BOTH_TABLE[1], BOTH_TABLE[1][1])),
                      ("a.x", (((False,),), ((True,), "go"))), ("a.x", (((False,), "go", "go"), ((True,), "halt"))),
                      ("a.x", None), (None, BOTH_TABLE[1])):
            with self.subTest(value):
                self.assertFalse(is_table(BOTH_PROGRAM, value))

    def test_a_table_of_other_sources(self):
        self.assertFalse(is_table(BOTH_PROGRAM, table(LOAN_PROGRAM)))
        self.assertFalse(is_table(LOAN_PROGRAM, BOTH_TABLE))
        other = Program(BOTH.replace("source a", "source c").replace("a.x", "c.x"))
        self.assertFalse(is_table(other, BOTH_TABLE))

    def test_changed_tables(self):
        """A changed table is one if and only if it is the one table of what it tells."""
        draw = random.Random(23)
        seen = {True: 0, False: 0}
        for _ in range(120):
            program = drawing.program(draw, 1, 3)
            whole = table(program)
            for _ in range(15):
                value = self.changed(draw, whole)
                expected = is_canonical(program, value)
                self.assertEqual(is_table(program, value), expected)
                seen[expected] += 1
        self.assertGreater(min(seen.values()), 200)

    def changed(self, draw, value):
        """A table with one thing changed, somewhere in it."""
        if not isinstance(value, tuple):
            return draw.choice(("go", "halt", "stop", None))
        if draw.random() < 0.1:
            return draw.choice(value[1])[1]
        name, branches = value
        at = draw.randrange(len(branches))
        values, further = branches[at]
        kind = draw.random()
        if kind < 0.55:
            return (name, replaced(branches, at, (values, self.changed(draw, further))))
        if kind < 0.65:
            return (name, branches[:at] + branches[at + 1:])
        if kind < 0.75:
            other = draw.randrange(len(branches))
            return (name, replaced(branches, at, (values, branches[other][1])))
        if kind < 0.85:
            other = draw.randrange(len(branches))
            return (name, replaced(replaced(branches, at, branches[other]), other, branches[at]))
        if kind < 0.95 and isinstance(values[0], int) and not isinstance(values[0], bool):
            shift = draw.choice(((0, 1), (0, -1), (1, 0), (-1, 0)))
            return (name, replaced(branches, at, ((values[0] + shift[0], values[1] + shift[1]), further)))
        return (name, replaced(branches, at, (draw.choice((values[::-1], values[:1], values + values[:1])), further)))


class ByTableTest(unittest.TestCase):
    def test_answers_that_are_no_world(self):
        found = table(LOAN_PROGRAM)
        for work in ((0, False), (9999, True)):
            self.assertIsNone(by_table(LOAN_PROGRAM, found, ((13, "inside"), work, (True,))))
        self.assertEqual(by_table(LOAN_PROGRAM, found, ((13, "inside"), None, (True,))), "refuse")
        self.assertEqual(by_table(LOAN_PROGRAM, found, ((18, "outside"), (3000, True), (True,))), "grant")

    def test_any_table_over_the_sources(self):
        value = ("a.x", (((False,), ("b.x", (((False,), None), ((True,), "other")))), ((True,), "some")))
        for answers, expected in ((((False,), (False,)), None), (((False,), (True,)), "other"),
                                  (((True,), (False,)), "some")):
            self.assertEqual(by_table(BOTH_PROGRAM, value, answers), expected)
        self.assertEqual(by_table(BOTH_PROGRAM, "thing", ((False,), (False,))), "thing")
        self.assertIsNone(by_table(BOTH_PROGRAM, None, ((False,), (False,))))

    def test_bad_answers(self):
        found = table(LOAN_PROGRAM)
        for answers in (*any_values(), ((13, "inside"), None), ((13, "inside"), None, None),
                        ((121, "inside"), None, (True,)),
                        ((13, "in"), None, (True,)), ((13, "inside"), None, (1,)), ((True, "inside"), None, (True,)),
                        [(13, "inside"), None, (True,)], ((13, "inside"), (0, False), (True,), ()),
                        ((13, "inside"), (), (True,))):
            self.assertTrue(same(raised(BadAnswers, by_table, LOAN_PROGRAM, found, answers), answers))

    def test_bad_table_comes_first(self):
        for value in (1, (), ("a.x", ()), table(LOAN_PROGRAM), [], "no"):
            for answers in (None, ((True,), (True,))):
                self.assertTrue(same(raised(BadTable, by_table, BOTH_PROGRAM, value, answers), value))


class AlikeTest(unittest.TestCase):
    def test_programs_written_otherwise(self):
        for text in (
            BOTH.replace("a.x and b.x", "b.x and a.x"), BOTH.replace("a.x and b.x", "not (not a.x or not b.x)"),
            BOTH.replace("a.x and b.x", "points(1 a.x, 1 b.x) = 2"), BOTH.replace("decide grant",
                "rule r a.x\ndecide grant"),
            BOTH.replace("grant if", "refuse if not a.x\ndecide grant if").replace("a.x and b.x", "b.x"),
            BOTH.replace("round 1", "round 9").replace("price 1 stay 0", "price 7 common", 1),
            BOTH.replace(" stay 0", " stay 3"), BOTH.replace("decide", "given a.x or not a.x\ndecide"),
        ):
            with self.subTest(text):
                other = Program(text)
                self.assertIsNone(alike(BOTH_PROGRAM, other))
                self.assertIsNone(alike(other, BOTH_PROGRAM))
                self.assertTrue(same(table(other), BOTH_TABLE))
                for answers in drawing.all_answers(other):
                    self.assertIs(shows_unlike(BOTH_PROGRAM, other, answers), False)
                self.assertTrue(same(merged(BOTH_PROGRAM, other, other), BOTH_TABLE))

    def test_the_only_difference(self):
        one = with_rules("decide go if a.n = 7 and a.w = hi and m.k = -2 and c.x")
        other = with_rules("decide go if a.n > 9")
        found = alike(one, other)
        self.assertEqual((found[0][:2], found[1][1], found[2]), ((7, "hi"), -2, (True,)))
        self.assertIs(shows_unlike(one, other, found), True)
        self.assertIs(shows_unlike(one, other, ((7, "hi", False), (True, -2), (False,))), False)
        self.assertEqual(shows_unlike(one, other, ((7, "hi", True), (True, -2), (True,))), True)

    def test_a_world_of_just_one(self):
        one, other = with_rules("given not there m"), with_rules("given not (there m and m.k > 1)")
        found = alike(one, other)
        self.assertTrue(found[1] is not None and found[1][1] < 2)
        self.assertIs(shows_unlike(one, other, ((0, "lo", False), (False, 2), (False,))), False)
        self.assertIs(shows_unlike(one, other, ((0, "lo", False), (False, 1), (False,))), True)
        self.assertIs(shows_unlike(one, other, ((0, "lo", False), None, (False,))), False)

    def test_shows_unlike_takes_any_value(self):
        one, other = with_rules("decide go if c.x"), with_rules("decide stop if c.x")
        right = ((0, "lo", False), None, (True,))
        self.assertIs(shows_unlike(one, other, right), True)
        for value in (*any_values(), right[:2], [*right], ((0, "lo", 0), None, (True,)), ((0, "lo", False), None, (1,)),
                      ((False, "lo", False), None, (True,)), (*right, ()), ((0, "lo", False), (), (True,)),
                      ((10, "lo", False), None, (True,))):
            self.assertIs(shows_unlike(one, other, value), False)

    def test_drawn_programs(self):
        draw = random.Random(24)
        seen = 0
        for _ in range(200):
            sources = drawing.source_lines(draw, draw.randint(1, 2))
            one, other = drawing.program_with(draw, sources), drawing.program_with(draw, sources)
            if draw.random() < 0.3:
                other = Program(one.text.replace(" if ", " if not not ").replace("given ", "given true and "))
            differing = [answers for answers in drawing.all_answers(one) if outcome(one, answers) != outcome(other,
                answers)]
            found = alike(one, other)
            self.assertEqual(found is None, differing == [])
            self.assertEqual(found is None, same(table(one), table(other)))
            if found is not None:
                self.assertTrue(any(same(found, answers) for answers in differing))
            for answers in drawing.all_answers(one):
                self.assertIs(shows_unlike(one, other, answers), answers in differing)
            seen += found is None
        self.assertGreater(seen, 30)


class OtherSourcesTest(unittest.TestCase):
    def test_sources_that_differ_in_one_thing(self):
        for written in (
            ("  n 0..9", "  n 0..10"), ("  n 0..9", "  n -1..9"), ("  n 0..9", "  n lo hi"), ("  n 0..9", "  n yes"),
            ("lo mid hi far", "mid lo hi far"), ("lo mid hi far", "lo mid hi"), ("lo mid hi far", "lo mid hi far off"),
            ("  b yes", "  b yes\n  d yes"), ("  b yes", "  d yes"), ("  b yes", "  b 0..1"), ("\n  b yes", ""),
            ("  n 0..9\n  w lo mid hi far", "  w lo mid hi far\n  n 0..9"), ("price 1 maybe", "price 1"),
            ("source c price 1", "source c price 1 maybe"), ("source c", "source d"),
            ("source c", "source d price 1\n  x yes\nsource c"),
            ("source c price 1\n  x yes\n", ""),
        ):
            with self.subTest(written):
                self.assertIn(written[0], MIXED)
                self.check(Program(MIXED + "otherwise halt"), Program(MIXED.replace(*written) + "otherwise halt"))

    def check(self, one, other):
        for some, more in ((one, other), (other, one)):
            self.assertIsNone(raised(OtherSources, alike, some, more))
            for value in (*any_values(), ((True,), (True,))):
                self.assertIsNone(raised(OtherSources, shows_unlike, some, more, value))
            for three in ((some, more, more), (some, some, more), (some, more, some)):
                self.assertIsNone(raised(OtherSources, merged, *three))

    def test_names_and_sequence(self):
        swapped = BOTH.replace("source a", "source t").replace("source b", "source a").replace("source t", "source b")
        self.check(BOTH_PROGRAM, Program(swapped))
        self.check(BOTH_PROGRAM, Program(BOTH.replace("source a", "source c").replace("a.x", "c.x")))
        self.check(BOTH_PROGRAM, Program(BOTH.replace("  x yes", "  y yes").replace(".x", ".y")))
        self.check(BOTH_PROGRAM, Program("round 1\nsource a price 1\n  x yes\notherwise go"))
        fields = "round 1\nsource a price 1\n  x yes\n  y yes\notherwise go"
        self.check(Program(fields), Program(fields.replace("  x yes\n  y yes", "  y yes\n  x yes")))

    def test_what_may_differ(self):
        for written in (("price 2", "price 3"), ("stay 2", "stay 3"), (" stay 2", ""), (" common", ""),
                        ("maybe", "maybe common"), ("round 1", "round 4")):
            other = Program(LOAN.replace(*written))
            self.assertIsNone(alike(LOAN_PROGRAM, other))
            self.assertIs(shows_unlike(LOAN_PROGRAM, other, None), False)
            self.assertTrue(same(merged(LOAN_PROGRAM, other, LOAN_PROGRAM), table(other)))


class MergedTest(unittest.TestCase):
    def test_none_one_the_other_and_both(self):
        base, one = with_rules("decide go if a.n > 4"), with_rules("decide go if a.n > 5")
        other = with_rules("decide go if a.n > 4", "decide stop if c.x and not a.n > 4")
        self.assertTrue(same(merged(base, base, base), table(base)))
        self.assertTrue(same(merged(base, one, base), table(one)))
        self.assertTrue(same(merged(base, base, one), table(one)))
        self.assertTrue(same(merged(base, one, one), table(one)))
        both = with_rules("decide go if a.n > 5", "decide stop if c.x and not a.n > 4")
        self.assertTrue(same(merged(base, one, other), table(both)))
        self.assertTrue(same(merged(base, other, one), table(both)))

    def test_none_counts_as_an_outcome(self):
        base, one = with_rules("decide go if a.n > 4"), with_rules("given a.n > 2", "decide go if a.n > 4")
        other = with_rules("decide go if a.n > 4", "decide stop if a.n = 3")
        both = with_rules("given a.n > 2", "decide go if a.n > 4", "decide stop if a.n = 3")
        self.assertTrue(same(merged(base, one, other), table(both)))
        self.assertTrue(same(merged(one, base, base), table(base)))
        clashing = with_rules("decide go if a.n > 4", "decide stop if a.n = 2")
        self.assertEqual(raised(Clash, merged, base, one, clashing)[0][0], 2)

    def test_a_merged_table_may_tell_none_everywhere(self):
        base, one, other = with_rules("given a.b or c.x"), with_rules("given a.b"), with_rules("given c.x and not a.b")
        found = merged(base, one, other)
        self.assertIsNone(found)

    def test_clash(self):
        base, one, other = (with_rules(f"decide {name} if a.n = 7 and m.x and a.w = far") for name in ("go", "stop",
            "wait"))
        found = raised(Clash, merged, base, one, other)
        self.assertEqual((found[0][:2], found[1][0]), ((7, "far"), True))
        self.assertTrue(all(is_world(program, found) for program in (base, one, other)))

    def test_drawn_programs(self):
        draw = random.Random(25)
        seen = {True: 0, False: 0}
        for _ in range(400):
            sources = drawing.source_lines(draw, draw.randint(1, 2))
            base = drawing.program_with(draw, sources)
            one, other = self.changed(draw, base), self.changed(draw, base)
            tells = {answers: self.merged_outcome(*[outcome(program, answers) for program in (base, one, other)])
                     for answers in drawing.all_answers(base)}
            clashing = [answers for answers in tells if tells[answers] == "-"]
            seen[clashing == []] += 1
            if clashing:
                self.assertTrue(any(same(raised(Clash, merged, base, one, other), answers) for answers in clashing))
            else:
                self.assertTrue(same(merged(base, one, other), Naive(base, lambda answers: tells[answers]).whole()))
        self.assertGreater(min(seen.values()), 30)

    def changed(self, draw, base):
        """A program with another first decision for some worlds."""
        return drawing.varied(draw, base, [line for line in base.text.split("\n") if line.startswith(("source", "  "))])

    def merged_outcome(self, base, one, other):
        """What both agree on, or what the one that changed it tells; "-" for a clash."""
        if one == other or other == base:
            return one
        return other if one == base else "-"


if __name__ == "__main__":
    unittest.main()
