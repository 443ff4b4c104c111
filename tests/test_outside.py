import inspect
import random
import unittest

import drawing
from onlyasked import outside as module
from onlyasked.errors import BadAnswers, BadWorld, BadWorlds, NoSource, NoSubject, TooSoon
from onlyasked.outside import Outside
from onlyasked.programs import Program
from onlyasked.worlds import is_world
from samples import BOTH, LOAN, any_values, raised, same

BOTH_PROGRAM, LOAN_PROGRAM = Program(BOTH), Program(LOAN)
YES, NO = (True,), (False,)
EVA = ((20, "inside"), (3500, True), YES)
TOM = ((12, "outside"), None, YES)
KINDS = Program("round 1\nsource a price 2 stay 2\n  n 0..9\nsource b price 3\n  x yes\n"
                "source c price 4 stay 0\n  x yes\n"
                "source m price 5 stay 1 maybe common\n  x yes\nsource k price 6 common\n  x yes\n"
                "given a.n < 9 or c.x\ndecide go if a.n > 4\notherwise halt")
ONE = ((0,), NO, NO, NO, NO)


def two():
    return Outside(LOAN_PROGRAM, (("tom", TOM), ("eva", EVA)))


def kinds(many=2):
    return Outside(KINDS, tuple((name, ONE) for name in ("abe", "bob", "cat", "dan", "eva", "fay")[:many]))


def state(outside):
    return (outside.program, outside.time, outside.subjects, outside.paid,
            [outside.truth(name) for name in outside.subjects])


def ticked(outside, many):
    for _ in range(many):
        outside.tick()
    return outside


def changed(world, at, answer):
    return (*world[:at], answer, *world[at + 1:])


class NamesTest(unittest.TestCase):
    METHODS = {"__init__": ["self", "program", "worlds"], "truth": ["self", "subject"],
               "ask": ["self", "source", "subject"],
               "put": ["self", "subject", "world"], "put_common": ["self", "source", "answer"],
               "release": ["self", "source", "subject"], "tick": ["self"], "copy": ["self"]}

    def test_it_is_defined_here_with_its_methods(self):
        self.assertEqual(Outside.__module__, "onlyasked.outside")
        self.assertIs(module.Outside, Outside)
        for name, parameters in self.METHODS.items():
            self.assertIn(name, vars(Outside))
            self.assertEqual(list(inspect.signature(vars(Outside)[name]).parameters), parameters)

    def test_arguments_by_name(self):
        outside = Outside(worlds=(("eva", EVA),), program=LOAN_PROGRAM)
        self.assertEqual(outside.truth(subject="eva"), EVA)
        self.assertEqual(outside.ask(subject="eva", source="work"), (3500, True))
        outside.release(subject="eva", source="work")
        outside.put(world=changed(EVA, 1, None), subject="eva")
        outside.put_common(answer=NO, source="market")
        self.assertEqual(outside.truth("eva"), ((20, "inside"), None, NO))


class NewOutsideTest(unittest.TestCase):
    def test_properties(self):
        outside = two()
        self.assertIs(outside.program, LOAN_PROGRAM)
        self.assertEqual((outside.time, outside.paid, outside.subjects), (0, 0, ("eva", "tom")))
        self.assertTrue(same(outside.truth("eva"), EVA))
        self.assertTrue(same(outside.truth("tom"), TOM))

    def test_one_to_six_subjects(self):
        names = ("f", "e", "d", "c", "b", "a", "g")
        for many in range(1, 7):
            outside = Outside(BOTH_PROGRAM, tuple((name, (YES, NO)) for name in names[:many]))
            self.assertEqual(outside.subjects, tuple(sorted(names[:many])))
        for many in (0, 7):
            value = tuple((name, (YES, NO)) for name in names[:many])
            self.assertEqual(raised(BadWorlds, Outside, BOTH_PROGRAM, value), value)

    def test_names_of_subjects(self):
        for name in ("a", "x" * 12, "person", "adult", "grant", "inside"):
            self.assertEqual(Outside(LOAN_PROGRAM, ((name, EVA),)).subjects, (name,))
        for name in ("", "x" * 13, "Eva", "eva1", "e v", "round", "no", "yes", "none", "in", "ev-a", 1, None, True,
                     ("eva",), ["eva"]):
            value = ((name, EVA),)
            self.assertEqual(raised(BadWorlds, Outside, LOAN_PROGRAM, value), value)

    def test_any_value(self):
        for value in any_values():
            self.assertTrue(same(raised(BadWorlds, Outside, LOAN_PROGRAM, value), value))
            self.assertTrue(same(raised(BadWorlds, Outside, LOAN_PROGRAM, (value,)), (value,)))
            self.assertTrue(same(raised(BadWorlds, Outside, LOAN_PROGRAM, (("eva", value),)), (("eva", value),)))
            if not same(value, "a"):
                self.assertTrue(same(raised(BadWorlds, Outside, LOAN_PROGRAM, ((value, EVA),)), ((value, EVA),)))
            self.assertTrue(same(raised(BadWorlds, Outside, LOAN_PROGRAM, (("eva", EVA), value)),
                                 (("eva", EVA), value)))

    def test_what_is_no_worlds(self):
        for value in (
            [("eva", EVA)], (["eva", EVA],), (("eva",),), (("eva", EVA, EVA),), ("eva", EVA),
            (("eva", EVA), ("eva", EVA)),
            (("eva", EVA), ("tom", TOM), ("eva", EVA)), (("eva", ((20, "inside"), (3500, True))),),
            (("eva", (*EVA, YES)),),
            (("eva", [*EVA]),), (("eva", ([20, "inside"], None, YES)),), (("eva", ((20, "inside"), (3500, 1), YES)),),
            (("eva", ((20, "inside"), (True, True), YES)),), (("eva", ((121, "inside"), None, YES)),),
            (("eva", ((20, "in"), None, YES)),),
            (("eva", ((20, "inside"), None, None)),), (("eva", ((13, "inside"), (5, True), YES)),),
            (("eva", EVA), ("tom", changed(TOM, 2, NO))), (("eva", changed(EVA, 2, NO)), ("tom", TOM), ("ann", TOM)),
            ((("eva", EVA),),), (("eva", EVA), ("tom", None)),
        ):
            with self.subTest(value):
                self.assertTrue(same(raised(BadWorlds, Outside, LOAN_PROGRAM, value), value))


class TruthTest(unittest.TestCase):
    def test_no_subject(self):
        outside = two()
        for value in (*any_values(), "tim", "Eva", ("eva",), ["eva"], "person"):
            self.assertTrue(same(raised(NoSubject, outside.truth, value), value))


class AskTest(unittest.TestCase):
    def test_answers_and_prices(self):
        outside = two()
        told = [(outside.ask(source, name), outside.paid) for source, name in
                (("person", "eva"), ("work", "eva"), ("work", "tom"), ("market", "tom"), ("market", "tom"),
                 ("person", "eva"))]
        self.assertEqual(told, [((20, "inside"), 2), ((3500, True), 5), (None, 8), (YES, 9), (YES, 10),
                                ((20, "inside"), 12)])
        self.assertEqual((outside.time, outside.truth("eva")), (0, EVA))

    def test_no_source_then_no_subject(self):
        outside = two()
        before = state(outside)
        for call in (outside.ask, outside.release):
            for value in (*any_values(), "income", "work.income", "eva", ("work",)):
                for subject in ("eva", "tim", value):
                    self.assertTrue(same(raised(NoSource, call, value, subject), value))
            for value in (*any_values(), "tim", "work", ("eva",)):
                self.assertTrue(same(raised(NoSubject, call, "work", value), value))
        self.assertEqual(state(outside), before)


class PromiseTest(unittest.TestCase):
    def fails(self, outside, name="abe", at=0, answer=(1,)):
        """Whether another answer is too soon; it is not changed."""
        before = state(outside)
        probe = outside.copy()
        source = KINDS.sources[at]
        world = changed(probe.truth(name), at, answer)
        call, given = (probe.put_common, (source, answer)) if KINDS.parts[at].common else (probe.put, (name, world))
        try:
            call(*given)
        except TooSoon as error:
            self.assertEqual(error.value, source)
            self.assertEqual(state(probe), before)
            return True
        self.assertEqual(probe.truth(name), world)
        self.assertEqual(state(outside), before)
        return False

    def test_nothing_is_promised_at_first(self):
        for at, answer in ((0, (1,)), (1, YES), (2, YES), (3, YES), (3, None), (4, YES)):
            self.assertFalse(self.fails(kinds(), "abe", at, answer))

    def test_up_to_the_very_last_moment(self):
        for at, stay in ((0, 2), (2, 0), (3, 1)):
            for start in (0, 3):
                outside = ticked(kinds(), start)
                outside.ask(KINDS.sources[at], "abe")
                for _ in range(stay + 1):
                    self.assertTrue(self.fails(outside, "abe", at, (1,) if at == 0 else YES))
                    outside.tick()
                self.assertFalse(self.fails(outside, "abe", at, (1,) if at == 0 else YES))

    def test_for_ever_without_stay(self):
        for at in (1, 4):
            outside = kinds()
            outside.ask(KINDS.sources[at], "abe")
            for _ in range(12):
                self.assertTrue(self.fails(outside, "abe", at, YES))
                outside.tick()

    def test_asked_again(self):
        outside = kinds()
        outside.ask("a", "abe")
        outside.tick()
        outside.ask("a", "abe")
        ticked(outside, 2)
        self.assertTrue(self.fails(outside))
        outside.tick()
        self.assertFalse(self.fails(outside))

    def test_other_subjects(self):
        outside = kinds()
        outside.ask("a", "bob")
        self.assertFalse(self.fails(outside, "abe"))
        self.assertTrue(self.fails(outside, "bob"))

    def test_common_ones_are_promised_for_all(self):
        for name in ("abe", "bob"):
            outside = kinds()
            outside.ask("m", name)
            for answer in (YES, None):
                self.assertTrue(self.fails(outside, "abe", 3, answer))
            self.assertFalse(self.fails(outside, "abe", 4, YES))
            outside.release("m", "abe")
            self.assertFalse(self.fails(outside, "bob", 3, YES))

    def test_release(self):
        outside = kinds()
        outside.ask("a", "abe")
        outside.ask("b", "abe")
        outside.ask("a", "bob")
        paid = outside.paid
        self.assertIsNone(outside.release("a", "abe"))
        self.assertFalse(self.fails(outside))
        self.assertTrue(self.fails(outside, "abe", 1, YES))
        self.assertTrue(self.fails(outside, "bob"))
        outside.release("a", "abe")
        outside.release("b", "abe")
        self.assertFalse(self.fails(outside, "abe", 1, YES))
        outside.ask("b", "abe")
        self.assertTrue(self.fails(outside, "abe", 1, YES))
        self.assertEqual(outside.paid, paid + 3)

    def test_the_same_answer_is_never_too_soon(self):
        outside = kinds()
        for source in KINDS.sources:
            outside.ask(source, "abe")
        outside.put("abe", ONE)
        outside.put_common("m", NO)
        outside.put_common("k", NO)
        self.assertEqual(outside.truth("abe"), ONE)

    def test_another_value_of_the_same_class(self):
        outside = kinds()
        outside.ask("a", "abe")
        self.assertTrue(self.fails(outside, "abe", 0, (1,)))
        self.assertTrue(self.fails(outside, "abe", 0, (4,)))
        ticked(outside, 3)
        outside.put("abe", changed(ONE, 0, (4,)))
        self.assertEqual(outside.truth("abe")[0], (4,))

    def test_an_answer_that_is_there_no_more(self):
        program = Program("round 0\nsource a price 1 stay 1 maybe\n  x yes\ndecide go if a.x\notherwise halt")
        for there, other in ((YES, None), (None, YES), (NO, None)):
            outside = Outside(program, (("eva", (there,)),))
            outside.ask("a", "eva")
            self.assertEqual(raised(TooSoon, outside.put, "eva", (other,)), "a")
            ticked(outside, 2).put("eva", (other,))
            self.assertTrue(same(outside.truth("eva"), (other,)))

    def test_the_first_source_in_their_sequence(self):
        program = Program("round 0\nsource d price 1\n  x yes\nsource c price 1\n  x yes\nsource b price 1\n  x yes\n"
                          "decide go if b.x\notherwise halt")
        outside = Outside(program, (("eva", (NO, NO, NO)),))
        for source in ("b", "c"):
            outside.ask(source, "eva")
        for world, first in (((YES, YES, YES), "c"), ((NO, YES, YES), "c"), ((YES, NO, YES), "b"),
                             ((YES, YES, NO), "c")):
            self.assertEqual(raised(TooSoon, outside.put, "eva", world), first)
        outside.put("eva", (YES, NO, NO))
        outside.ask("d", "eva")
        self.assertEqual(raised(TooSoon, outside.put, "eva", (NO, YES, YES)), "d")


class PutTest(unittest.TestCase):
    def test_it_is_the_world_from_now_on(self):
        outside = two()
        self.assertIsNone(outside.put("tom", ((30, "inside"), (1, False), YES)))
        self.assertTrue(same(outside.truth("tom"), ((30, "inside"), (1, False), YES)))
        self.assertEqual(outside.truth("eva"), EVA)
        self.assertEqual(outside.ask("work", "tom"), (1, False))

    def test_no_subject_then_bad_world_then_too_soon(self):
        outside = two()
        outside.ask("person", "eva")
        before = state(outside)
        bad = ((13, "inside"), (5, True), YES)
        for value in (*any_values(), "tim"):
            self.assertTrue(same(raised(NoSubject, outside.put, value, bad), value))
            self.assertTrue(same(raised(NoSubject, outside.put, value, EVA), value))
            self.assertTrue(same(raised(BadWorld, outside.put, "eva", value), value))
        for world in (bad, changed(EVA, 2, NO), changed(changed(EVA, 2, NO), 0, (21, "inside")),
                      changed(EVA, 0, (121, "inside")),
                      changed(EVA, 1, (5, 1)), changed(EVA, 0, None), EVA[:2], [*EVA], (*EVA, YES)):
            self.assertTrue(same(raised(BadWorld, outside.put, "eva", world), world))
        self.assertEqual(raised(TooSoon, outside.put, "eva", changed(EVA, 0, (21, "inside"))), "person")
        self.assertEqual(state(outside), before)

    def test_common_answers_are_not_put_so(self):
        outside = Outside(LOAN_PROGRAM, (("eva", EVA),))
        self.assertEqual(raised(BadWorld, outside.put, "eva", changed(EVA, 2, NO)), changed(EVA, 2, NO))


class PutCommonTest(unittest.TestCase):
    def test_for_all_subjects(self):
        outside = two()
        self.assertIsNone(outside.put_common("market", NO))
        self.assertEqual((outside.truth("eva"), outside.truth("tom")), (changed(EVA, 2, NO), changed(TOM, 2, NO)))
        outside = kinds(6)
        outside.put_common("m", None)
        self.assertTrue(all(outside.truth(name) == changed(ONE, 3, None) for name in outside.subjects))

    def test_no_source_then_bad_answers_then_too_soon(self):
        outside = two()
        outside.ask("market", "eva")
        before = state(outside)
        for value in (*any_values(), "work", "person", "open", "market.open"):
            for answer in (YES, NO, None, 1):
                self.assertTrue(same(raised(NoSource, outside.put_common, value, answer), value))
            self.assertTrue(same(raised(BadAnswers, outside.put_common, "market", value), value))
        for answer in (None, (1,), (0,), (True, True), [True], True, ("yes",), ((True,),)):
            self.assertTrue(same(raised(BadAnswers, outside.put_common, "market", answer), answer))
        self.assertEqual(raised(TooSoon, outside.put_common, "market", NO), "market")
        self.assertEqual(state(outside), before)

    def test_answers_that_make_no_world_of_some_subject(self):
        program = Program("round 0\nsource a price 1\n  x yes\nsource k price 1 common\n  x yes\n"
                          "given a.x or not k.x\notherwise halt")
        outside = Outside(program, (("eva", (YES, NO)), ("tom", (NO, NO))))
        self.assertEqual(raised(BadAnswers, outside.put_common, "k", YES), YES)
        outside.ask("k", "eva")
        self.assertEqual(raised(BadAnswers, outside.put_common, "k", YES), YES)
        outside.put("tom", (YES, NO))
        self.assertEqual(raised(TooSoon, outside.put_common, "k", YES), "k")
        outside.release("k", "tom")
        outside.put_common("k", YES)
        self.assertEqual(outside.truth("tom"), (YES, YES))


class CopyTest(unittest.TestCase):
    def test_the_same_content(self):
        outside = ticked(kinds(), 3)
        outside.ask("a", "abe")
        outside.put("bob", changed(ONE, 1, YES))
        twin = outside.copy()
        self.assertIsInstance(twin, Outside)
        self.assertIsNot(twin, outside)
        self.assertEqual(state(twin), state(outside))
        self.assertEqual(raised(TooSoon, twin.put, "abe", changed(ONE, 0, (3,))), "a")

    def test_they_go_on_by_themselves(self):
        outside = kinds()
        twin = outside.copy()
        before = state(outside)
        twin.tick()
        twin.ask("b", "abe")
        twin.put("bob", changed(ONE, 0, (5,)))
        twin.put_common("k", YES)
        self.assertEqual(state(outside), before)
        outside.put("abe", changed(ONE, 1, YES))
        self.assertEqual(twin.truth("abe"), changed(ONE, 4, YES))
        self.assertEqual(raised(TooSoon, twin.put, "abe", changed(changed(ONE, 4, YES), 1, YES)), "b")
        outside.ask("a", "abe")
        twin.put("abe", changed(changed(ONE, 4, YES), 0, (7,)))
        twin.release("b", "abe")
        third = twin.copy()
        third.put("abe", changed(third.truth("abe"), 1, YES))
        self.assertEqual(twin.truth("abe")[1], NO)
        self.assertEqual((outside.time, twin.time), (0, 1))


class AgainstTheWordsTest(unittest.TestCase):
    """Drawn calls, held against promises that are kept as a list of all that was ever asked and released."""

    def test_drawn_histories(self):
        draw = random.Random(31)
        seen = {TooSoon: 0, BadWorld: 0, BadAnswers: 0, None: 0}
        for _ in range(400):
            program = drawing.program(draw, 1, 3, common=0.4, givens=0.7)
            names = ("eva", "tom", "ann")[:draw.randint(1, 3)]
            self.worlds = dict(drawing.truths(draw, program, names))
            self.outside = Outside(program, tuple(self.worlds.items()))
            self.program, self.asked, self.time, self.paid = program, [], 0, 0
            for _ in range(25):
                found = self.step(draw, draw.choice(names))
                seen[found] += 1
                self.assertEqual(state(self.outside), (program, self.time, tuple(sorted(names)), self.paid,
                                                       [self.worlds[name] for name in sorted(names)]))
        self.assertGreater(min(seen.values()), 40)

    def promised(self, part, name):
        times = [at for source, subject, at in self.asked if source == part.name and (part.common or subject == name)]
        return any(part.stay is None or self.time <= at + part.stay for at in times)

    def step(self, draw, name):
        part = draw.choice(self.program.parts)
        at = self.program.parts.index(part)
        kind = draw.randrange(6)
        if kind == 0:
            self.outside.tick()
            self.time += 1
        elif kind == 1:
            self.assertEqual(self.outside.ask(part.name, name), self.worlds[name][at])
            self.asked.append((part.name, name, self.time))
            self.paid += part.price
        elif kind == 2:
            self.outside.release(part.name, name)
            self.asked = [one for one in self.asked if one[0] != part.name or not part.common and one[1] != name]
        elif kind == 3:
            return self.put_common(part, at, draw.choice(drawing.answers_of(part)))
        else:
            world = draw.choice(drawing.all_answers(self.program))
            if draw.random() < 0.7:
                world = tuple(now if one.common else answer for one, now,
                              answer in zip(self.program.parts, self.worlds[name], world))
            return self.put(name, world)
        return None

    def put(self, name, world):
        now = self.worlds[name]
        other = [part for part, one, answer in zip(self.program.parts, now, world) if one != answer]
        if not is_world(self.program, world) or any(part.common for part in other):
            self.assertEqual(raised(BadWorld, self.outside.put, name, world), world)
            return BadWorld
        soon = [part.name for part in other if self.promised(part, name)]
        if soon:
            self.assertEqual(raised(TooSoon, self.outside.put, name, world), soon[0])
            return TooSoon
        self.outside.put(name, world)
        self.worlds[name] = world
        return None

    def put_common(self, part, at, answer):
        if not part.common:
            self.assertEqual(raised(NoSource, self.outside.put_common, part.name, answer), part.name)
            return None
        worlds = {name: changed(world, at, answer) for name, world in self.worlds.items()}
        if not all(is_world(self.program, world) for world in worlds.values()):
            self.assertEqual(raised(BadAnswers, self.outside.put_common, part.name, answer), answer)
            return BadAnswers
        if worlds != self.worlds and self.promised(part, None):
            self.assertEqual(raised(TooSoon, self.outside.put_common, part.name, answer), part.name)
            return TooSoon
        self.outside.put_common(part.name, answer)
        self.worlds = worlds
        return None


if __name__ == "__main__":
    unittest.main()
