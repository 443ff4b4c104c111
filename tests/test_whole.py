import ast
import importlib
import random
import unittest
from pathlib import Path

import drawing
from modelling import Model, late_of, state_of, told_of
from onlyasked.errors import BadAnswers, BadWorld, BadWorlds, NothingToUndo, TooSoon
from onlyasked.house import House
from onlyasked.housetexts import read_house, show_house
from onlyasked.outside import Outside
from onlyasked.plans import plan, shows_plan
from onlyasked.standings import Known
from onlyasked.tables import alike, by_table, merged, table
from onlyasked.worlds import evaluate
from samples import raised, same

PACKAGE = Path(__file__).resolve().parent.parent / "onlyasked"
WORDS = ("ok", "ok", "ok", "lost", "late", "twice", "down", "crash")
INTERFACE = {
    "errors": "AskError BadProgram Doubled Unnamed RingOfRules TooLarge NoWorld BadWorld NoName BadFact BadFacts "
              "Unlike Impossible Settled Open BadAnswers OtherSources BadTable Clash BadWorlds NoSubject NoSource "
              "TooSoon Begun NoCase NoPage NothingToUndo BadText OtherTime BadLine",
    "programs": "Program", "worlds": "is_world evaluate", "marks": "marks mark_of worlds", "facts": "Facts",
    "settling": "possible conflict settled parting kept shows_conflict shows_parting shows_kept", "standings": "Known",
    "plans": "Plan plan shows_tree shows_plan",
    "answerers": "answerer shows_answerer", "tables": "alike shows_unlike table by_table merged", "outside": "Outside",
    "house": "House", "book": "Page",
    "texts": "show_facts show_known show_tree read_facts read_known read_tree", "housetexts": "show_house read_house",
    "desk": "Desk",
}
METHODS = {
    "Facts": "__init__ __getitem__ __contains__ __len__ __or__ __eq__ only",
    "Known": "__init__ __eq__ life later answered", "Plan": "__bool__ behind ways", "Program": "__init__ __eq__",
    "Outside": "__init__ truth ask put put_common release tick copy",
    "House": "__init__ begin standing told go page rest revise news again undo trial tried", "Page": "__init__",
    "Desk": "__init__ say",
}


class InterfaceTest(unittest.TestCase):
    def test_each_name_is_defined_in_the_file_under_which_it_is_listed(self):
        for module, names in INTERFACE.items():
            tree = ast.parse((PACKAGE / f"{module}.py").read_text(encoding="utf-8"))
            defined = {node.name: node for node in tree.body if isinstance(node, (ast.FunctionDef, ast.ClassDef))}
            for name in names.split():
                with self.subTest(f"{module}.{name}"):
                    self.assertIn(name, defined)
                    self.assertEqual(getattr(importlib.import_module(f"onlyasked.{module}"), name).__module__,
                                     f"onlyasked.{module}")
                    own = [node.name for node in defined[name].body if isinstance(node, ast.FunctionDef)]
                    for method in METHODS.get(name, "").split():
                        self.assertIn(method, own)


def good_facts_hold(program, page, world):
    """Whether all facts of a page hold in a world."""
    told = {}
    for part, answer in zip(program.parts, world):
        told[part.name] = answer is not None
        told.update(zip([field.name for field in part.fields], answer or ()))
    return all(name in told and same(told[name], value) for name, value in page.known.facts.pairs)


class History:
    """A drawn history of a house: rounds with troubles, truths that change, revisions, news, openings and trials.

    All of it is done with a Model (modelling.py), too.
    """

    def __init__(self, test, draw):
        self.test, self.draw = test, draw
        self.program = drawing.program(draw, 1, 3, common=0.35)
        self.sources = [line for line in self.program.text.split("\n") if line.startswith(("source", "  "))]
        self.names = ("ann", "bob", "cat", "dan")[:draw.randint(1, 4)]
        worlds = drawing.truths(draw, self.program, self.names)
        rows = draw.random() < 0.3
        self.house, self.model = House(Outside(self.program, worlds), rows=rows), Model(self.program, worlds, rows)
        self.seen = {}
        self.pages = 0

    def count(self, word, many=1):
        self.seen[word] = self.seen.get(word, 0) + many

    def step(self):
        kinds = [self.begin] * 3 + [self.go] * 8 + [self.tick, self.news, self.again] + [self.put] * 3
        kind = self.draw.choice(kinds + [self.change] * 3 + [self.revise] * 3 + [self.undo] * 2)
        before = show_house(self.house)
        if self.draw.random() < 0.2:
            held = self.house.tried(lambda one: one)
            self.test.assertEqual(show_house(held), before)
            with self.house.trial() as other:
                for one in (held, other):
                    one.go(tuple(self.draw.choice(WORDS) for _ in range(4)))
                    one.news(one.program.sources[0], self.names[0])
            self.test.assertEqual(show_house(self.house), before)
        kind(self.draw.choice(self.names))
        self.compare()
        if self.draw.random() < 0.2:
            self.house = read_house(self.house.outside, show_house(self.house))
            self.compare()

    def both(self, call):
        """What is done with the house and with the model; it returns the same."""
        found = call(self.house)
        self.test.assertTrue(same(found, call(self.model)))
        return found

    def begin(self, name):
        if name not in self.house.cases and name not in self.model.decided:
            self.both(lambda one: one.begin(name))

    def go(self, _):
        troubles = tuple(self.draw.choice(WORDS) for _ in range(self.draw.randint(0, 6)))
        for _, _, word in self.both(lambda one: one.go(troubles)):
            self.count(word)

    def tick(self, _):
        self.both(lambda one: one.outside.tick())

    def put(self, name):
        """Another truth, as far as it is not promised."""
        truth = self.house.outside.truth(name)
        world = self.draw.choice(drawing.all_worlds(self.house.program))
        world = tuple(now if part.common or self.draw.random() < 0.5 else answer for part, now,
                      answer in zip(self.house.program.parts, truth, world))
        for one in (self.house, self.model):
            try:
                one.outside.put(name, world)
                self.count("put")
            except (BadWorld, TooSoon):
                self.count("refused")

    def change(self, name):
        """Another answer, although it was promised, and the news of it."""
        at = self.draw.randrange(len(self.sources_now()))
        source = self.sources_now()[at]
        part = self.house.program.parts[at]
        answer = self.draw.choice(drawing.answers_of(part))
        for one in (self.house, self.model):
            one.outside.release(source, name)
            truth = one.outside.truth(name)
            try:
                if part.common:
                    one.outside.put_common(source, answer)
                else:
                    one.outside.put(name, (*truth[:at], answer, *truth[at + 1:]))
            except (BadWorld, BadAnswers):
                pass
        self.count("opened by news", len(self.both(lambda one: one.news(source, name))))

    def sources_now(self):
        return self.house.program.sources

    def news(self, name):
        source = self.draw.choice(self.sources_now())
        self.both(lambda one: one.news(source, name))

    def again(self, name):
        if name in self.model.decided:
            self.both(lambda one: one.again(name))
            self.count("again")

    def revise(self, _):
        program = drawing.program_with(self.draw, self.sources)
        if self.draw.random() < 0.3:
            program = drawing.varied(self.draw, self.house.program, self.sources)
        bad = self.model.bad_worlds(program)
        if bad:
            self.test.assertTrue(same(raised(BadWorlds, self.house.revise, program), bad))
            return
        decided = {name: self.house.page(name) for name in self.model.decided}
        stands, opened = self.both(lambda one: one.revise(program))
        self.check_stands(program, decided, stands, opened)
        self.count("stands", len(stands))
        self.count("opened", len(opened))

    def check_stands(self, program, decided, stands, opened):
        """Guarantee (d): by all worlds of the new program that agree with the facts of a page."""
        self.test.assertEqual(sorted(stands + opened), sorted(decided))
        worlds = drawing.all_worlds(program)
        for name, page in decided.items():
            results = {evaluate(program, world)[0] for world in worlds if good_facts_hold(program, page, world)}
            self.test.assertEqual(results == {page.outcome}, name in stands)

    def undo(self, _):
        if not self.model.revisions:
            self.test.assertIsNone(raised(NothingToUndo, self.house.undo))
            return
        bad = self.model.bad_worlds(self.model.revisions[-1][0])
        if bad:
            self.test.assertTrue(same(raised(BadWorlds, self.house.undo), bad))
            return
        self.count("decided again", len(self.model.again_of(self.model.revisions[-1])))
        self.both(lambda one: one.undo())
        self.count("undo")

    def compare(self):
        """The house is as the model is, its text tells so, and new decisions are right now (guarantee (a))."""
        self.test.assertEqual(state_of(self.house), state_of(self.model))
        lines = show_house(self.house).split("\n")
        again = [",".join(self.model.again_of(revision)) or "-" for revision in self.model.revisions]
        self.test.assertEqual([line for line in lines if line.startswith("revised")],
                              [f"revised {names}" for names in again])
        late = [(source, subject or "-", "ever" if life is None else str(life)) for source, subject, life,
                _ in late_of(self.model)]
        self.test.assertEqual([tuple(line.split(" ")[1:4]) for line in lines if line.startswith("coming")], late)
        for page in self.house.pages[self.pages:]:
            truth = self.house.outside.truth(page.subject)
            outcome, row = evaluate(self.house.program, truth)
            self.test.assertEqual((page.outcome, row if page.row is None else page.row, page.time),
                                  (outcome, row, self.house.outside.time))
            self.test.assertTrue(good_facts_hold(self.house.program, page, truth))
            settled = {evaluate(self.house.program, world)[0] for world in drawing.all_worlds(self.house.program)
                       if good_facts_hold(self.house.program, page, world)}
            self.test.assertEqual(settled, {page.outcome})
        self.pages = len(self.house.pages)


class HistoriesTest(unittest.TestCase):
    def test_drawn_histories(self):
        draw = random.Random(81)
        seen = {}
        for _ in range(200):
            history = History(self, draw)
            for _ in range(25):
                history.step()
            for word, many in history.seen.items():
                seen[word] = seen.get(word, 0) + many
        for word in ("ok", "lost", "late", "twice", "down", "crash", "none", "put", "refused", "opened by news",
                     "again", "stands", "opened", "undo", "decided again"):
            self.assertGreater(seen.get(word, 0), 15, word)


class SpentTest(unittest.TestCase):
    """Guarantee (c): without troubles no more than what was told of each case when it was begun."""

    def test_truths_that_change_meanwhile(self):
        draw = random.Random(82)
        just = 0
        for _ in range(120):
            program = drawing.program(draw, 2, 4, common=0.35, most_fields=1)
            names = ("ann", "bob", "cat", "dan", "eva")[:draw.randint(1, 5)]
            house = House(Outside(program, drawing.truths(draw, program, names)), rows=draw.random() < 0.3)
            waiting, told = list(names), 0
            worlds = drawing.all_worlds(program)
            while waiting or house.cases:
                while waiting and draw.random() < 0.6:
                    house.begin(waiting[-1])
                    told += house.told(waiting[-1]) if waiting[-1] in house.cases else 0
                    waiting.pop()
                house.go()
                for name in names:
                    self.put(draw, house, name, draw.choice(worlds))
            self.assertLessEqual(house.spent, told)
            just += told == house.spent > 0
        self.assertGreater(just, 10)

    def put(self, draw, house, name, world):
        now = house.outside.truth(name)
        world = tuple(before if part.common or draw.random() < 0.5 else answer for part, before,
                      answer in zip(house.program.parts, now, world))
        try:
            house.outside.put(name, world)
        except (BadWorld, TooSoon):
            pass


class PlansAndTablesTest(unittest.TestCase):
    def test_more_facts_never_make_it_dearer(self):
        """Guarantee (b), for facts that are left out, and for lives that are shorter."""
        draw = random.Random(83)
        for _ in range(100):
            program = drawing.program(draw, 1, 3)
            known = drawing.known_of(draw, program, draw.choice(drawing.all_worlds(program)), 0.6)
            least = plan(program, known)
            self.assertTrue(shows_plan(program, known, least.tree))
            for at, line in enumerate(known.lines):
                fewer = Known(known.lines[:at] + known.lines[at + 1:])
                self.assertGreaterEqual(plan(program, fewer).price, least.price)
                for life in range(3 if line[2] is None else line[2]):
                    shorter = Known((*known.lines[:at], (line[0], line[1], life), *known.lines[at + 1:]))
                    self.assertGreaterEqual(plan(program, shorter).price, least.price)

    def test_alike_if_and_only_if_the_tables_are_equal(self):
        """Guarantee (e), for programs of one house and what is merged of them."""
        draw = random.Random(84)
        for _ in range(80):
            sources = drawing.source_lines(draw, draw.randint(1, 2))
            one, other = drawing.program_with(draw, sources), drawing.program_with(draw, sources)
            self.assertEqual(alike(one, other) is None, same(table(one), table(other)))
            both = merged(one, one, other)
            for answers in drawing.all_answers(one)[:40]:
                self.assertEqual(by_table(one, both, answers), by_table(one, table(other), answers))

    def test_pages_keep_what_they_say(self):
        draw = random.Random(85)
        history = History(self, draw)
        pages = []
        for _ in range(40):
            history.step()
            self.assertEqual([told_of(page) for page in history.house.pages[:len(pages)]], pages)
            pages = [told_of(page) for page in history.house.pages]


if __name__ == "__main__":
    unittest.main()
