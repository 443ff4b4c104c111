import copy
import inspect
import random
import unittest

from onlyasked import plans
from onlyasked.errors import BadAnswers, BadFact, Impossible, NoWorld, TooLarge
from onlyasked.marks import mark_of
from onlyasked.plans import Plan, plan, shows_plan, shows_tree
from onlyasked.prices import Prices, later
from onlyasked.programs import Program
from onlyasked.settling import shows_conflict
from onlyasked.standings import Known
from samples import BOTH, LOAN, POINTER, any_values, raised, same, with_rows
from searching import Search, standing_of

BOTH_PROGRAM, POINTER_PROGRAM, LOAN_PROGRAM = Program(BOTH), Program(POINTER), Program(LOAN)
YES, NO = (True,), (False,)
GRANT, REFUSE = ("settled", "grant"), ("settled", "refuse")
BOTH_TREE = ("ask", ("a", "b"), (((NO, NO), REFUSE), ((NO, YES), REFUSE), ((YES, NO), REFUSE), ((YES, YES), GRANT)))


def price(text, lines=(), rows=False):
    return plan(Program(text), Known(lines), rows=rows).price


class NamesTest(unittest.TestCase):
    def test_they_are_defined_here(self):
        for name in ("Plan", "plan", "shows_tree", "shows_plan"):
            self.assertEqual(getattr(plans, name).__module__, "onlyasked.plans")
        for name in ("__bool__", "behind", "ways"):
            self.assertIn(name, vars(Plan))

    def test_arguments_by_name(self):
        one = plan(known=Known(), program=BOTH_PROGRAM, rows=False)
        self.assertIsInstance(one, Plan)
        self.assertEqual(one.behind(answers=(YES, NO)).tree, REFUSE)
        self.assertIs(shows_tree(value=BOTH_TREE, price=3, known=Known(), program=BOTH_PROGRAM, rows=False), True)
        self.assertIs(shows_plan(value=BOTH_TREE, known=Known(), program=BOTH_PROGRAM, rows=False), True)

    def test_rows_are_given_by_name_only(self):
        with self.assertRaises(TypeError):
            plan(BOTH_PROGRAM, Known(), True)
        with self.assertRaises(TypeError):
            shows_tree(BOTH_PROGRAM, Known(), 3, BOTH_TREE, True)
        with self.assertRaises(TypeError):
            shows_plan(BOTH_PROGRAM, Known(), BOTH_TREE, True)

    def test_equal_calls_return_equal_results(self):
        for text in (BOTH, POINTER, LOAN):
            one, other = plan(Program(text), Known()), plan(Program(text), Known())
            self.assertTrue(one == other)
            self.assertTrue(same(one.tree, other.tree))
            self.assertEqual(list(one.ways()), list(other.ways()))
            self.assertEqual(list(one.ways()), list(one.ways()))
            self.assertFalse(one == plan(Program(text), Known(), rows=True))
            self.assertFalse(one == one.tree)
        self.assertFalse(plan(BOTH_PROGRAM, Known()) == plan(BOTH_PROGRAM, Known((("a.x", True, 0),))))
        self.assertFalse(plan(BOTH_PROGRAM, Known()) == plan(POINTER_PROGRAM, Known()))


class ExamplesTest(unittest.TestCase):
    def test_two_sources_whose_answers_do_not_stay(self):
        one = plan(BOTH_PROGRAM, Known())
        told = [one.price, one.asks, one.behind((YES, NO)).tree]
        self.assertEqual(told, [3, ("a", "b"), ("settled", "refuse")])
        self.assertTrue(same(one.tree, BOTH_TREE))

    def test_one_of_them_first(self):
        """It is gone ahead of the next round: both again."""
        tree = ("ask", ("a",), (((NO,), REFUSE), ((YES,), BOTH_TREE)))
        self.assertTrue(shows_tree(BOTH_PROGRAM, Known(), 5, tree))
        self.assertFalse(shows_plan(BOTH_PROGRAM, Known(), tree))

    def test_pointer(self):
        one = plan(POINTER_PROGRAM, Known())
        told = [one.price, one.asks, list(one.ways())[0]]
        self.assertEqual(told, [8, ("s",), (((("s",), (("left",),)), (("u",), (("good",),))), "grant")])
        self.assertEqual(len(list(one.ways())), 4)

    def test_pointer_in_other_ways(self):
        good, bad, dunno = ("good",), ("bad",), ("dunno",)
        last = ("ask", ("v",), (((good,), GRANT), ((bad,), REFUSE)))
        tree = ("ask", ("u",), (((good,), GRANT), ((bad,), REFUSE), ((dunno,), last)))
        self.assertTrue(shows_tree(POINTER_PROGRAM, Known(), 12, tree))
        self.assertFalse(shows_plan(POINTER_PROGRAM, Known(), tree))
        tree = ("ask", ("u", "v"), (((good, dunno), GRANT), ((bad, dunno), REFUSE), ((dunno, good), GRANT),
                                    ((dunno, bad), REFUSE)))
        self.assertTrue(shows_tree(POINTER_PROGRAM, Known(), 11, tree))
        self.assertFalse(shows_plan(POINTER_PROGRAM, Known(), tree))

    def test_pointer_with_other_prices(self):
        for written, asks, least in (
            (("source s price 1", "source s price 3"), ("s",), 10), (("source s price 1", "source s price 4"), None, 11),
            (("source s price 1", "source s price 5"), ("u", "v"), 11), (("round 1", "round 0"), ("s",), 6),
            (("round 1", "round 3"), ("s",), 12), (("round 1", "round 4"), None, 14), (("round 1", "round 5"), ("u", "v"), 15),
            (("source u price 5", "source u price 1"), ("u", "v"), 7), (("source u price 5", "source u price 9"), ("s",), 12),
        ):
            with self.subTest(written):
                text = POINTER.replace(*written)
                one = plan(Program(text), Known())
                self.assertEqual(one.price, least)
                self.assertEqual(one.price, Search(Program(text)).least({}))
                if asks is not None:
                    self.assertEqual(one.asks, asks)

    def test_pointer_whose_answer_does_not_stay(self):
        """What s tells is still good when u or v is asked with a stay of 1, and is gone with a stay of 0."""
        for stay, least in ((1, 8), (2, 8), (3, 8), (0, 11)):
            self.assertEqual(price(POINTER.replace("source s price 1", f"source s price 1 stay {stay}")), least)

    def test_the_pointer_is_known(self):
        for life, least in ((0, 8), (1, 6), (2, 6), (None, 6)):
            one = plan(POINTER_PROGRAM, Known((("s.side", "right", life),)))
            self.assertEqual(one.price, least)
            self.assertEqual(one.asks, ("v",) if least == 6 else ("s",))

    def test_loan(self):
        one = plan(LOAN_PROGRAM, Known())
        self.assertEqual((one.price, one.asks), (7, ("market", "person", "work")))
        self.assertTrue(shows_plan(LOAN_PROGRAM, Known(), one.tree))
        self.assertEqual(plan(Program(LOAN.replace("round 1", "round 0")), Known()).price, 6)


class PropertiesTest(unittest.TestCase):
    def test_a_settled_standing(self):
        for known, result in ((Known((("person.age", 12, 0),)), "refuse"), (Known((("person.age", 12, None),)), "refuse"),
                              (Known((("person.age", 77, 0), ("work", False, 1))), "look")):
            one = plan(LOAN_PROGRAM, known)
            self.assertTrue(same([one.price, one.tree, one.asks], [0, ("settled", result), ()]))
            self.assertIs(bool(one), False)
            self.assertEqual(list(one.ways()), [((), result)])
        one = plan(LOAN_PROGRAM, Known((("person.age", 12, 0),)), rows=True)
        self.assertTrue(same([one.price, one.tree, one.asks, bool(one)], [0, ("settled", 0), (), False]))

    def test_something_is_asked(self):
        one = plan(BOTH_PROGRAM, Known())
        self.assertIs(bool(one), True)
        self.assertTrue(same([one.price, one.asks], [3, ("a", "b")]))

    def test_sources_ascend(self):
        text = BOTH.replace("source a", "source z").replace("a.x", "z.x")
        self.assertEqual(plan(Program(text), Known()).asks, ("b", "z"))
        self.assertEqual(plan(Program(text), Known()).tree[2][1], ((YES, NO), REFUSE))

    def test_rows_that_give_the_same_outcome(self):
        program = Program("round 1\nsource a price 2\n  x yes\ndecide go if a.x\notherwise go")
        self.assertEqual(plan(program, Known()).tree, ("settled", "go"))
        one = plan(program, Known(), rows=True)
        self.assertTrue(same([one.price, one.tree], [3, ("ask", ("a",), (((NO,), ("settled", 1)), ((YES,), ("settled", 0))))]))
        self.assertTrue(same(list(one.ways()), [(((("a",), (NO,)),), 1), (((("a",), (YES,)),), 0)]))
        self.assertTrue(same(one.behind((NO,)).tree, ("settled", 1)))

    def test_errors(self):
        for known, name in (
            (Known((("zeta", 1, 0),)), "zeta"), (Known((("person.age", True, 0),)), "person.age"),
            (Known((("work", 1, None), ("person.home", "out", 0))), "person.home"), (Known((("market", True, 1),)), "market"),
            (Known((("work", False, 0), ("work.income", 1, 0), ("zeta", 1, 3))), "zeta"),
        ):
            self.assertEqual(raised(BadFact, plan, LOAN_PROGRAM, known), name)
            for value in (None, (), BOTH_TREE, ("settled", "refuse")):
                self.assertEqual(raised(BadFact, shows_tree, LOAN_PROGRAM, known, 0, value), name)
                self.assertEqual(raised(BadFact, shows_plan, LOAN_PROGRAM, known, value), name)

    def test_impossible_standings(self):
        for lines in ((("work", False, 0), ("work.income", 1, None)), (("person.age", 12, None), ("work", True, 0), ("market.open", True, 1)),
                      (("work", False, 2), ("work.fixed", True, 0), ("person.age", 50, 0))):
            known = Known(lines)
            for value in (None, (), BOTH_TREE, ("settled", "refuse")):
                for told in (raised(Impossible, plan, LOAN_PROGRAM, known),
                             raised(Impossible, lambda: plan(LOAN_PROGRAM, known, rows=True)),
                             raised(Impossible, shows_tree, LOAN_PROGRAM, known, 0, value),
                             raised(Impossible, shows_plan, LOAN_PROGRAM, known, value)):
                    self.assertEqual(len(told), 2)
                    self.assertTrue(shows_conflict(LOAN_PROGRAM, known.facts, told))


class BranchesTest(unittest.TestCase):
    def test_their_sequence(self):
        """That of the worlds, None first, though the sources stand in that of their names."""
        program = Program("round 0\nsource z price 1\n  w zeta alpha\nsource b price 1 maybe\n  n 0..9\nsource a price 1\n  y yes\n"
                          "decide go if z.w = zeta and not there b and a.y\ndecide halt if b.n > 4 and a.y\notherwise look")
        answers = [(a, b, z) for z in (("zeta",), ("alpha",)) for b in (None, (0,), (5,)) for a in (NO, YES)]
        tree = ("ask", ("a", "b", "z"), tuple([(
            (a, b, z),
            ("settled", "look" if a == NO else "go" if b is None and z == ("zeta",) else "halt" if b == (5,) else "look"))
            for a, b, z in answers]))
        self.assertTrue(shows_tree(program, Known(), 3, tree))
        for at in range(len(answers) - 1):
            turned = list(tree[2])
            turned[at], turned[at + 1] = turned[at + 1], turned[at]
            self.assertFalse(shows_tree(program, Known(), 3, (*tree[:2], tuple(turned))))

    def test_told_values_in_the_place_of_marks(self):
        known = Known((("person.age", 77, 1), ("market.open", True, 3)))
        one = plan(LOAN_PROGRAM, known)
        self.assertEqual(one.asks, ("person", "work"))
        self.assertTrue(same([answers for answers, _ in one.tree[2]], [
            ((77, home), work) for home in ("inside", "outside")
            for work in (None, (0, False), (0, True), (3000, False), (3000, True))]))
        self.assertTrue(shows_plan(LOAN_PROGRAM, known, one.tree))
        text = LOAN.replace("stay 2", "stay 0")
        tree = plan(Program(text), Known((("person.age", 77, 0), ("market.open", True, 3)))).tree
        self.assertEqual(len(tree[2]), len(Search(Program(text)).answers({"market.open": (True, None)}, tree[1])))

    def test_a_whole_source_may_be_asked_again(self):
        """It tells the same, and its life is new."""
        known = Known((("a.x", True, 1),))
        tree = ("ask", ("a",), (((YES,), ("ask", ("a", "b"), tuple(
            [((one, other), GRANT if one == other == YES else REFUSE) for one in (NO, YES) for other in (NO, YES)]))),))
        self.assertTrue(shows_tree(BOTH_PROGRAM, known, 5, tree))
        self.assertFalse(shows_plan(BOTH_PROGRAM, known, tree))
        self.assertTrue(shows_plan(BOTH_PROGRAM, known, ("ask", ("b",), (((NO,), REFUSE), ((YES,), GRANT)))))

    def test_an_answer_that_has_gone_may_be_another_one_next_time(self):
        self.assertTrue(shows_plan(BOTH_PROGRAM, Known((("a.x", True, 0),)), BOTH_TREE))
        self.assertFalse(shows_tree(BOTH_PROGRAM, Known((("a.x", True, 0),)), 3, (*BOTH_TREE[:2], BOTH_TREE[2][2:])))
        self.assertFalse(shows_tree(BOTH_PROGRAM, Known((("a.x", True, 1),)), 3, BOTH_TREE))
        self.assertTrue(shows_tree(BOTH_PROGRAM, Known((("a.x", True, 1),)), 3, (*BOTH_TREE[:2], BOTH_TREE[2][2:])))

    def test_longer_lives_are_lost_by_asking(self):
        """A source with a stay of 0 that is known for ever is known for this moment alone when it was asked."""
        known = Known((("a.x", True, None),))
        self.assertEqual(plan(BOTH_PROGRAM, known).price, 2)
        tree = ("ask", ("a",), (((YES,), BOTH_TREE),))
        self.assertTrue(shows_tree(BOTH_PROGRAM, known, 5, tree))

    def test_asking_again_what_is_still_known_may_be_worth_its_price(self):
        """As a is gone one round later, and with another answer of it the other one of c and d would count."""
        alike = "a.x and b.x or not a.x and not b.x"
        program = Program("round 0\nsource a price 1 stay 1\n  x yes\nsource b price 1 stay 1\n  x yes\n"
                          "source c price 5 stay 0\n  x yes\nsource d price 5 stay 0\n  x yes\n"
                          f"rule alike {alike}\ndecide go if alike and c.x\ndecide go if not alike and d.x\notherwise halt")
        for life, least, asks in ((0, 7, ("a", "b")), (1, 7, ("a", "b")), (2, 6, ("b",)), (3, 6, ("b",)), (None, 6, ("b",))):
            known = Known((("a.x", True, life),))
            one = plan(program, known)
            self.assertEqual((one.price, one.asks), (least, asks))
            self.assertTrue(shows_plan(program, known, one.tree))
        one = plan(program, Known((("a.x", True, 1),)))
        self.assertEqual([answers for answers, _ in one.tree[2]], [(YES, NO), (YES, YES)])


class BehindTest(unittest.TestCase):
    def test_marks(self):
        one = plan(POINTER_PROGRAM, Known())
        for answers, tree in one.tree[2]:
            further = one.behind(answers)
            self.assertIsInstance(further, Plan)
            self.assertEqual(further.price, 6)
            self.assertTrue(same(further.tree, tree))
            for later, last in further.tree[2]:
                self.assertTrue(same(further.behind(later).tree, last))

    def test_values_that_are_no_marks(self):
        program = Program("round 0\nsource a price 1\n  n 0..9\nsource b price 1\n  n 0..9\n"
                          "decide go if a.n > 4\ndecide halt if b.n > 4\notherwise look")
        one = plan(program, Known())
        self.assertEqual([answers for answers, _ in one.tree[2]], [((0,),), ((5,),)])
        self.assertEqual(one.behind(((7,),)).tree, ("settled", "go"))
        self.assertEqual(one.behind(((3,),)).price, 1)
        self.assertEqual(one.behind(((3,),)).behind(((9,),)).tree, ("settled", "halt"))
        again = plan(Program(program.text.replace("round 0", "round 9").replace("source b price 1", "source b price 1 stay 0")),
                     Known((("b.n", 7, 1),)))
        self.assertEqual((again.price, again.asks), (10, ("a",)))
        self.assertTrue(same(again.behind(((1,),)).tree, ("settled", "halt")))

    def test_what_is_told_must_stay_the_same(self):
        program = Program("round 0\nsource a price 1 maybe\n  n 0..9\n  x yes\ndecide go if a.n > 4 and a.x\notherwise halt")
        one = plan(program, Known((("a.n", 7, 1),)))
        self.assertEqual([answers for answers, _ in one.tree[2]], [((7, False),), ((7, True),)])
        self.assertEqual(one.behind(((7, True),)).tree, ("settled", "go"))
        for answers in (((8, True),), ((5, True),), (None,), ((0, False),)):
            self.assertIs(raised(BadAnswers, one.behind, answers), answers)
        gone = plan(program, Known((("a", True, 0), ("a.x", True, 0))))
        self.assertEqual(gone.behind(((8, True),)).tree, ("settled", "go"))
        self.assertEqual(gone.behind((None,)).tree, ("settled", "halt"))
        there = plan(program, Known((("a", True, 1), ("a.x", True, 0))))
        self.assertEqual(raised(BadAnswers, there.behind, (None,)), (None,))
        self.assertEqual(there.behind(((0, False),)).tree, ("settled", "halt"))

    def test_answers_that_no_world_has(self):
        program = Program(with_rows("given a.n > 3", "given a.b or m.x", "decide go if m.x and a.w = lo"))
        one = plan(program, Known((("a.b", False, 2),)))
        self.assertEqual(one.asks, ("a",))
        for answers in (((4, "hi", False),), ((9, "lo", False),)):
            self.assertIsInstance(one.behind(answers), Plan)
        for answers in (((3, "hi", False),), ((-5, "lo", False),), ((9, "lo", True),)):
            self.assertIs(raised(BadAnswers, one.behind, answers), answers)

    def test_values_of_any_kind(self):
        for one in (plan(BOTH_PROGRAM, Known()), plan(POINTER_PROGRAM, Known()), plan(LOAN_PROGRAM, Known())):
            for value in [*any_values(), (YES,), (YES, NO, NO), [YES, NO], ([True], [False]), ((True, True), NO), (1, 0), ((1,), (0,)),
                          (YES, None), {"a": YES}, ("left",), (["left"],), (("right", "left"),), (("up",),), "left",
                          one.tree, one, one.tree[2]]:
                with self.subTest(value):
                    self.assertIs(raised(BadAnswers, one.behind, value), value)

    def test_nothing_is_asked(self):
        one = plan(LOAN_PROGRAM, Known((("person.age", 12, 1),)))
        for value in [*any_values(), ((12, "inside"),), (None,)]:
            with self.subTest(value):
                self.assertIs(raised(BadAnswers, one.behind, value), value)

    def test_a_plan_stays_as_it_is(self):
        one = plan(BOTH_PROGRAM, Known())
        one.behind((YES, YES))
        raised(BadAnswers, one.behind, (YES,))
        list(one.ways())
        self.assertTrue(same([one.price, one.asks, one.tree], [3, ("a", "b"), BOTH_TREE]))
        known = Known((("person.age", 77, 1), ("market.open", True, 3)))
        lines = known.lines
        one = plan(LOAN_PROGRAM, known)
        one.behind(((77, "inside"), None))
        self.assertIs(known.lines, lines)
        self.assertEqual(LOAN_PROGRAM.text, LOAN)


class WaysTest(unittest.TestCase):
    def test_it_is_a_generator(self):
        found = plan(BOTH_PROGRAM, Known()).ways()
        self.assertTrue(inspect.isgenerator(found))
        self.assertEqual(next(found), (((("a", "b"), (NO, NO)),), "refuse"))
        self.assertEqual(list(found), [(((("a", "b"), answers),), result) for answers, result in (
            ((NO, YES), "refuse"), ((YES, NO), "refuse"), ((YES, YES), "grant"))])
        self.assertEqual(list(found), [])

    def test_the_sequence_of_the_branches(self):
        one = plan(POINTER_PROGRAM, Known())
        self.assertEqual(list(one.ways()), [
            (((("s",), ((side,),)), ((source,), ((told,),))), result)
            for side, source in (("left", "u"), ("right", "v")) for told, result in (("good", "grant"), ("bad", "refuse"))])

    def test_the_dearest_way_costs_the_price(self):
        for text in (POINTER, LOAN, BOTH):
            program = Program(text)
            search = Search(program)
            one = plan(program, Known())
            costs = [sum([search.ask_price(sources) for sources, _ in rounds]) for rounds, _ in one.ways()]
            self.assertEqual(max(costs), one.price)


class ShowsTest(unittest.TestCase):
    def shows(self, program, known, cost, value, rows=False):
        found = shows_tree(program, known, cost, value, rows=rows)
        self.assertIsInstance(found, bool)
        least = shows_plan(program, known, value, rows=rows)
        self.assertIsInstance(least, bool)
        return (found, least)

    def test_just_this_price(self):
        for cost in (-1, 0, 1, 2, 4, 5, 10 ** 30):
            self.assertEqual(self.shows(BOTH_PROGRAM, Known(), cost, BOTH_TREE), (False, True))
        self.assertEqual(self.shows(BOTH_PROGRAM, Known(), 3, BOTH_TREE), (True, True))

    def test_a_settled_standing(self):
        known = Known((("a.x", False, 0),))
        self.assertEqual(self.shows(BOTH_PROGRAM, known, 0, REFUSE), (True, True))
        self.assertEqual(self.shows(BOTH_PROGRAM, known, 1, REFUSE), (False, True))
        self.assertEqual(self.shows(BOTH_PROGRAM, known, 0, ("settled", 1), True), (True, True))
        for value in (GRANT, ("settled", "look"), ("settled", 0), ("settled", 1), ("settled", None), ("settled", True),
                      ("settled",), ("settled", "refuse", "refuse"), ["settled", "refuse"], ("settled", ["refuse"]),
                      ("settled", ("refuse",)), "refuse", ("ask", "refuse"), ("refuse", "settled"), (), None):
            with self.subTest(value):
                self.assertEqual(self.shows(BOTH_PROGRAM, known, 0, value), (False, False))
        for value in (REFUSE, ("settled", True), ("settled", 0), ("settled", "1"), ("settled", False)):
            with self.subTest(value):
                self.assertEqual(self.shows(BOTH_PROGRAM, known, 0, value, True), (False, False))

    def test_asking_in_a_settled_standing(self):
        """It is a tree, but none that is least."""
        known = Known((("a.x", False, 0),))
        self.assertEqual(self.shows(BOTH_PROGRAM, known, 3, BOTH_TREE), (True, False))
        known = Known((("a.x", False, 1),))
        tree = ("ask", ("b",), (((NO,), REFUSE), ((YES,), REFUSE)))
        self.assertEqual(self.shows(BOTH_PROGRAM, known, 2, tree), (True, False))

    def test_a_branch_that_is_not_least(self):
        """Its price does not count for that of the whole, but it is not least for its own standing."""
        program = Program("round 0\nsource a price 1\n  w lo hi\nsource b price 1\n  x yes\nsource c price 5\n  x yes\n"
                          "decide go if a.w = lo and b.x\ndecide go if a.w = hi and c.x\notherwise halt")
        one = plan(program, Known())
        self.assertEqual((one.price, one.asks), (6, ("a",)))
        go, halt = ("settled", "go"), ("settled", "halt")
        last = ("ask", ("c",), (((NO,), halt), ((YES,), go)))
        good = ("ask", ("b",), (((NO,), halt), ((YES,), go)))
        dear = ("ask", ("b", "c"), (((NO, NO), halt), ((NO, YES), halt), ((YES, NO), go), ((YES, YES), go)))
        for branch, cost, told in ((good, 6, (True, True)), (dear, 7, (True, False)), (last, 6, (False, False))):
            tree = ("ask", ("a",), (((("lo",),), branch), ((("hi",),), last)))
            self.assertEqual(self.shows(program, Known(), cost, tree), told)
        longer = ("ask", ("a",), (((("lo",),), good),))
        tree = ("ask", ("a",), (((("lo",),), longer), ((("hi",),), last)))
        self.assertEqual(self.shows(program, Known(), 6, tree), (True, False))

    def test_bent_trees(self):
        first, *others = BOTH_TREE[2]
        for value in (
            ("ask", ("b", "a"), BOTH_TREE[2]), ("ask", ["a", "b"], BOTH_TREE[2]), ("ask", ("a", "b"), list(BOTH_TREE[2])),
            ["ask", ("a", "b"), BOTH_TREE[2]], ("ask", ("a", "b")), ("ask",), ("ask", ("a", "b"), BOTH_TREE[2], ()),
            ("asks", ("a", "b"), BOTH_TREE[2]), ("ask", ("a", "a", "b"), BOTH_TREE[2]), ("ask", ("a", "c"), BOTH_TREE[2]),
            ("ask", (), ()), ("ask", (), BOTH_TREE[2]), ("ask", ("a", "b"), ()), ("ask", ("a", "b"), BOTH_TREE[2][:3]),
            ("ask", ("a", "b"), BOTH_TREE[2][1:]), ("ask", ("a", "b"), (*BOTH_TREE[2], BOTH_TREE[2][0])),
            ("ask", ("a", "b"), BOTH_TREE[2][::-1]), ("ask", ("a",), BOTH_TREE[2]), ("ask", "ab", BOTH_TREE[2]),
            ("ask", ("a", "b"), (first, *others[:2], ((YES, YES), REFUSE))), ("ask", ("a", "b"), (first, *others[:2], ((YES, YES),))),
            ("ask", ("a", "b"), (((NO, NO), REFUSE, REFUSE), *others)), ("ask", ("a", "b"), ([(NO, NO), REFUSE], *others)),
            ("ask", ("a", "b"), (([NO, NO], REFUSE), *others)), ("ask", ("a", "b"), ((([False], NO), REFUSE), *others)),
            ("ask", ("a", "b"), ((((0,), NO), REFUSE), *others)), ("ask", ("a", "b"), (((NO, (0,)), REFUSE), *others)),
            ("ask", ("a", "b"), (((NO, None), REFUSE), *others)), ("ask", ("a", "b"), (((NO,), REFUSE), *others)),
            ("ask", ("a", "b"), (((NO, NO), None), *others)), ("ask", ("a", "b"), (((NO, NO), BOTH_TREE[2]), *others)),
            ("ask", (("a", "b"),), BOTH_TREE[2]), ("ask", ("a", 1), BOTH_TREE[2]), ("ask", None, BOTH_TREE[2]),
            ("ask", ("a", ["b"]), BOTH_TREE[2]), ("ask", ("a", "b"), {}), ("ask", ("a", "b"), None), GRANT, REFUSE,
            ("settled", None), ("settled",), BOTH_TREE[2], BOTH_TREE[1],
        ):
            with self.subTest(value):
                self.assertEqual(self.shows(BOTH_PROGRAM, Known(), 3, value), (False, False))

    def test_sources_that_do_not_ascend(self):
        """Though their branches are those of the sources in this sequence."""
        turned = tuple([(answers[::-1], tree) for answers, tree in BOTH_TREE[2]])
        self.assertEqual(self.shows(BOTH_PROGRAM, Known(), 3, ("ask", ("b", "a"), turned)), (False, False))
        self.assertEqual(self.shows(BOTH_PROGRAM, Known(), 4, ("ask", ("a", "a"), (((NO, NO), REFUSE), ((YES, YES), BOTH_TREE)))),
                         (False, False))

    def test_values_of_any_kind(self):
        for value in [*any_values(), plan(BOTH_PROGRAM, Known())]:
            with self.subTest(value):
                for cost in (0, 3):
                    self.assertEqual(self.shows(BOTH_PROGRAM, Known(), cost, value), (False, False))
                    self.assertEqual(self.shows(BOTH_PROGRAM, Known(), cost, (value, value, value)), (False, False))
                    self.assertEqual(self.shows(BOTH_PROGRAM, Known(), cost, ("ask", value, value)), (False, False))
                    self.assertEqual(self.shows(BOTH_PROGRAM, Known(), cost, ("ask", ("a",), value)), (False, False))
                    self.assertEqual(self.shows(BOTH_PROGRAM, Known(), cost, ("ask", ("a",), (value, value))), (False, False))
                    self.assertEqual(self.shows(
                        BOTH_PROGRAM, Known(), cost, ("ask", ("a",), (((NO,), value), ((YES,), value)))), (False, False))
                    self.assertEqual(self.shows(BOTH_PROGRAM, Known(), cost, ("settled", value)), (False, False))

    def test_rows_and_outcomes(self):
        for rows in (False, True):
            tree = plan(BOTH_PROGRAM, Known(), rows=rows).tree
            self.assertEqual(self.shows(BOTH_PROGRAM, Known(), 3, tree, rows), (True, True))
            self.assertEqual(self.shows(BOTH_PROGRAM, Known(), 3, tree, not rows), (False, False))
        tree = ("ask", ("a", "b"), tuple([(answers, ("settled", answers != (YES, YES))) for answers, _ in BOTH_TREE[2]]))
        self.assertEqual(self.shows(BOTH_PROGRAM, Known(), 3, tree, True), (False, False))

    def test_what_was_handed_in_stays_as_it_is(self):
        for value in (["ask", ["a"], []], ("ask", ("a",), [((NO,), REFUSE)]), {"ask": []}):
            before = copy.deepcopy(value)
            self.shows(BOTH_PROGRAM, Known(), 3, value)
            self.assertEqual(value, before)


class Dice(random.Random):
    """Random small programs and standings."""

    def line(self, name):
        stay = self.choice(["", " stay 0", " stay 1", " stay 1", " stay 2", " stay 3"])
        return f"source {name} price {self.randint(1, 3)}{stay}{self.choice(['', '', ' maybe'])}"

    def field(self, name):
        return self.choice([f"  {name} yes", f"  {name} yes", f"  {name} lo hi mid", f"  {name} 0..9"])

    def leaf(self, lines):
        at = self.choice([at for at, line in enumerate(lines) if line.startswith("  ")])
        source = [line for line in lines[:at] if line.startswith("source")][-1]
        name = f"{source.split(' ')[1]}.{lines[at].split(' ')[2]}"
        if "maybe" in source and self.random() < 0.2:
            return f"there {source.split(' ')[1]}"
        if "yes" in lines[at]:
            return name
        if "lo" in lines[at]:
            return f"{name} = {self.choice(['lo', 'hi', 'mid'])}"
        return f"{name} {self.choice('<>')} {self.randint(1, 8)}"

    def expression(self, lines):
        leaves = [self.choice(["", "not "]) + self.leaf(lines) for _ in range(self.randint(1, 4))]
        points = ", ".join([f"{self.randint(-1, 2)} {leaf}" for leaf in leaves])
        return self.choice([" and ".join(leaves), " or ".join(leaves), f"points({points}) > {self.randint(0, 2)}"])

    def text(self, sources):
        lines = [f"round {self.choice([0, 0, 1, 2])}"]
        for name in "bac"[:sources]:
            lines.append(self.line(name))
            lines.extend([self.field(field) for field in "xy"[:self.choice([1, 1, 2])]])
        rows = [f"given {self.expression(lines)}" for _ in range(self.choice([0, 0, 1]))]
        rows += [f"decide {self.choice(['go', 'halt', 'look'])} if {self.expression(lines)}" for _ in range(self.randint(1, 3))]
        return "\n".join([*lines, *rows, "otherwise halt"])

    def program(self, sources):
        """A random program with so many sources and at most 24 worlds of marks."""
        while True:
            try:
                program = Program(self.text(sources))
            except (NoWorld, TooLarge):
                continue
            if len(program.mark_worlds) <= 24:
                return program

    def value(self, program, name, mark):
        """A value of the class of a mark, perhaps the mark itself."""
        if name not in program.fields or program.fields[name].kind != "integer":
            return mark
        return self.choice([value for value in range(10) if mark_of(program, name, value) == mark])

    def known(self, search, share):
        """A random standing that fits some world."""
        told = search.told[self.choice(list(search.told))]
        return Known(tuple([(name, self.value(search.program, name, mark), self.choice([0, 1, 2, 3, None]))
                            for name, mark in told.items() if self.random() < share]))


class RandomProgramsTest(unittest.TestCase):
    """Against a search over all sets of sources and all answers."""

    def check(self, program, search, known, rows):
        standing = standing_of(known)
        one = plan(program, known, rows=rows)
        self.assertEqual(one.price, search.least(standing))
        self.assertEqual(one.price, search.price(standing, one.tree, least=True))
        self.assertEqual(one.asks, () if one.price == 0 else one.tree[1])
        self.assertTrue(shows_tree(program, known, one.price, one.tree, rows=rows))
        self.assertFalse(shows_tree(program, known, one.price + 1, one.tree, rows=rows))
        self.assertTrue(shows_plan(program, known, one.tree, rows=rows))
        self.check_ways(search, one)
        return one

    def check_ways(self, search, one):
        costs = [sum([search.ask_price(sources) for sources, _ in rounds]) for rounds, _ in one.ways()]
        self.assertEqual(max(costs), one.price)
        for rounds, result in list(one.ways())[:6]:
            further = one
            for sources, answers in rounds:
                self.assertEqual(further.asks, sources)
                further = further.behind(answers)
            self.assertTrue(same(further.tree, ("settled", result)))

    def test_least_prices(self):
        dice = Dice(3)
        longer = 0
        for at in range(700):
            program = dice.program(dice.choice([1, 2, 2, 3, 3]))
            rows = at % 4 == 0
            search = Search(program, rows)
            for share in (0, 0.2, 0.5):
                known = dice.known(search, share)
                with self.subTest((program.text, known.lines, rows)):
                    one = self.check(program, search, known, rows)
                    longer += any(len(rounds) > 1 for rounds, _ in one.ways())
        self.assertGreater(longer, 100)

    def test_money_that_is_enough(self):
        """In whatever sequence it is asked for."""
        dice = Dice(13)
        gone = [Program(POINTER.replace("source s price 1", f"source s price {cost} stay 0")) for cost in (1, 2)]
        for program in [*gone, *[dice.program(3) for _ in range(150)]]:
            search = Search(program)
            if len(set(search.results.values())) > 1:
                least = search.least({})
                for sequence in (range(least + 5, -1, -1), range(least + 5), (least, least - 1, least)):
                    prices = Prices(program, False)
                    state = later(prices.state(Known()))
                    for money in sequence:
                        with self.subTest((program.text, money)):
                            self.assertIs(prices.is_enough(state, money), money >= least)

    def random_tree(self, dice, search, standing, depth):
        """Any tree for a standing; it asks without need, too."""
        results = search.results_of(standing)
        if len(results) == 1 and (depth == 0 or dice.random() < 0.7):
            return ("settled", min(results))
        sources = dice.choice(search.choices()) if depth else search.choices()[-1]
        return ("ask", sources, tuple([
            (answers, self.random_tree(dice, search, search.behind(standing, sources, answers), max(depth - 1, 0)))
            for answers in search.answers(standing, sources)]))

    def test_trees_of_any_price(self):
        dice = Dice(5)
        least = 0
        for at in range(400):
            program = dice.program(2)
            rows = at % 3 == 0
            search = Search(program, rows)
            known = dice.known(search, 0.2)
            tree = self.random_tree(dice, search, standing_of(known), dice.randint(0, 2))
            cost = search.price(standing_of(known), tree)
            with self.subTest((program.text, known.lines, tree)):
                self.assertIsNotNone(cost)
                self.assertIs(shows_tree(program, known, cost, tree, rows=rows), True)
                self.assertIs(shows_tree(program, known, cost - 1, tree, rows=rows), False)
                right = search.price(standing_of(known), tree, least=True) is not None
                self.assertIs(shows_plan(program, known, tree, rows=rows), right)
                least += right
        self.assertTrue(40 < least < 360, least)

    def dearer(self, program, search, known):
        """Pairs (program, known) none of which may cost less than these."""
        found = [(program, Known(tuple([line for line in known.lines if line != left]))) for left in known.lines]
        for name, value, life in known.lines:
            shorter = 3 if life is None else max(life - 1, 0)
            lines = tuple([line for line in known.lines if line[0] != name])
            found.append((program, Known((*lines, (name, value, shorter)))))
        for at, line in enumerate(program.text.split("\n")):
            if line.startswith("source"):
                found.extend([(Program(text), known) for text in self.dearer_texts(program.text, at)])
        found.append((Program(program.text.replace("round 2", "round 3").replace("round 1", "round 2")
                              .replace("round 0", "round 1")), known))
        return found

    def dearer_texts(self, text, at):
        """With a higher price, and with a shorter stay of the source in this line."""
        lines = text.split("\n")
        words = lines[at].split(" ")
        found = [" ".join([*words[:3], str(int(words[3]) + 1), *words[4:]])]
        if "stay" not in words:
            found.append(" ".join([*words[:4], "stay", "3", *words[4:]]))
        elif words[5] != "0":
            found.append(" ".join([*words[:5], str(int(words[5]) - 1), *words[6:]]))
        return ["\n".join([*lines[:at], line, *lines[at + 1:]]) for line in found]

    def test_more_is_never_dearer(self):
        dice = Dice(9)
        unlike = 0
        for _ in range(150):
            program = dice.program(3)
            search = Search(program)
            known = dice.known(search, 0.3)
            cost = plan(program, known).price
            for other, less in self.dearer(program, search, known):
                with self.subTest((other.text, less.lines)):
                    told = plan(other, less).price
                    self.assertGreaterEqual(told, cost)
                    unlike += told > cost
        self.assertGreater(unlike, 100)


class LargeProgramsTest(unittest.TestCase):
    def test_five_sources(self):
        """What three of five say may need all five, and is dear only if each of them needs a round of its own."""
        votes = ", ".join([f"1 {name}.w = lo" for name in "abcde"])
        for stay in ("", " stay 0", " stay 1", " stay 3"):
            for cost in (0, 9):
                lines = [f"source {name} price 1{stay}\n  w lo mid hi" for name in "abcde"]
                program = Program("\n".join([f"round {cost}", *lines, f"decide go if points({votes}) > 2", "otherwise halt"]))
                one = plan(program, Known())
                self.assertEqual(one.price, cost + 5)
                self.assertTrue(shows_plan(program, Known(), one.tree))

    def test_many_worlds(self):
        digits = [f"a.n = {number}" for number in range(1, 20)]
        text = "\n".join(["round 0", "source a price 9 stay 1", "  n 0..19", "source b price 1 stay 2", "  n 0..19",
                          f"rule r {' or '.join(digits)}", f"rule s {' or '.join(digits).replace('a.n', 'b.n')}",
                          "decide go if a.n = 3 and b.n = 7", "decide halt if a.n > 9 and b.n < 4", "otherwise look"])
        one = plan(Program(text), Known())
        self.assertEqual(one.price, 10)
        self.assertTrue(shows_plan(Program(text), Known(), one.tree))


if __name__ == "__main__":
    unittest.main()
