import inspect
import random
import re
import unittest

import drawing
from onlyasked import texts
from onlyasked.errors import BadText
from onlyasked.facts import Facts
from onlyasked.plans import plan
from onlyasked.programs import Program
from onlyasked.standings import Known
from onlyasked.texts import read_facts, read_known, read_tree, show_facts, show_known, show_tree
from samples import BOTH, LOAN, POINTER, any_values, raised, same

GRANT, REFUSE = ("settled", "grant"), ("settled", "refuse")
ASK = "ask a\nwhen yes\n  settled grant\nwhen no\n  settled refuse"
ASK_TREE = ("ask", ("a",), ((((True,),), GRANT), (((False,),), REFUSE)))
FACTS = "person.age 5; person.home inside; work no; work.income -20"
KNOWN = "a.x yes for 0; b no for ever; c.n -12 for 3; c.w none for 2"


def read(reader, text):
    """What is read, or the line of BadText."""
    try:
        return reader(text)
    except BadText as error:
        return error.value


def deep(asks, last="settled go"):
    """The text of a tree with so many asks in one another."""
    lines = []
    for at in range(asks):
        lines += [f"{'  ' * at}ask a", f"{'  ' * at}when yes"]
    return "\n".join([*lines, "  " * asks + last])


class NamesTest(unittest.TestCase):
    def test_they_are_defined_here(self):
        for name, parameter in (("show_facts", "facts"), ("show_known", "known"), ("show_tree", "tree"),
                                ("read_facts", "text"),
                                ("read_known", "text"), ("read_tree", "text")):
            self.assertEqual(getattr(texts, name).__module__, "onlyasked.texts")
            self.assertEqual(list(inspect.signature(getattr(texts, name)).parameters), [parameter])

    def test_arguments_by_name(self):
        self.assertEqual(read_facts(text=show_facts(facts=Facts((("a", True),)))), Facts((("a", True),)))
        self.assertEqual(read_known(text=show_known(known=Known((("a", True, 1),)))), Known((("a", True, 1),)))
        self.assertEqual(read_tree(text=show_tree(tree=ASK_TREE)), ASK_TREE)


class ExampleTest(unittest.TestCase):
    def test_the_example(self):
        known = Known((("a.x", True, 0), ("b.x", False, None)))
        told = [show_known(known), read_tree(ASK)]
        self.assertEqual(told[0], "a.x yes for 0; b.x no for ever")
        self.assertTrue(same(told[1], ASK_TREE))

    def test_the_words_of_the_document(self):
        self.assertEqual(show_facts(Facts((("work", False), ("person.age", 5)))), "person.age 5; work no")
        self.assertEqual((show_facts(Facts()), show_known(Known())), ("-", "-"))
        self.assertEqual((read_facts("-"), read_known("-")), (Facts(), Known()))


class AnyValueTest(unittest.TestCase):
    def test_what_is_no_string(self):
        for value in any_values():
            for reader in (read_facts, read_known, read_tree):
                if not isinstance(value, str):
                    self.assertTrue(same(raised(BadText, reader, value), 0))

    def test_strings(self):
        for text in ("", "a", "a.n", "\n", "x" * 20000, " ", "- ", " -", "--", "a.x", ";", "; ", "\t", "a\r"):
            for reader in (read_facts, read_known, read_tree):
                self.assertTrue(same(raised(BadText, reader, text), 0))


class FactsTest(unittest.TestCase):
    def test_written_and_read_back(self):
        for pairs in ((), (("a", True),), (("a", 5), ("a.n", -5), ("a.w", "lo"), ("b", False)), (("a.b", 0),),
                      (("a.n", 999999999999),)):
            facts = Facts(pairs)
            self.assertEqual(read_facts(show_facts(facts)), facts)
        self.assertEqual(show_facts(read_facts(FACTS)), FACTS)

    def test_numbers(self):
        for number in (0, 7, -7, 10, -10, 999999999999, -999999999999, 100000000000):
            self.assertTrue(same(read_facts(f"a.n {number}").pairs, (("a.n", number),)))
        for word in ("1000000000000", "-1000000000000", "00", "01", "-0", "-01", "+1", "1.0", "1_0", "--1", "-", "1e3",
                     "0x1", "", " 1", "1 ", "5a", "a5"):
            self.assertTrue(same(raised(BadText, read_facts, f"a.n {word}"), 0))

    def test_words(self):
        for word in ("lo", "x" * 12, "none", "true", "false", "round", "otherwise", "and", "ever", "for"):
            self.assertTrue(same(read_facts(f"a.w {word}").pairs, (("a.w", word),)))
        for word in ("x" * 13, "Lo", "l-o", "l.o", "/", "lo;", "l\u00f6", "lo\t"):
            self.assertTrue(same(raised(BadText, read_facts, f"a.w {word}"), 0))

    def test_bools(self):
        self.assertTrue(same(read_facts("a yes; b no").pairs, (("a", True), ("b", False))))

    def test_names(self):
        for name in ("a", "x" * 12, "a.b", f"{'x' * 12}.{'y' * 12}", "yes", "none.no", "in.or", "round", "for"):
            self.assertTrue(same(read_facts(f"{name} 1").pairs, ((name, 1),)))
        for name in ("x" * 13, f"a.{'x' * 13}", "a.b.c", "a.", ".a", ".", "A", "a1", "a b", "", "-", "5", "a..b"):
            self.assertTrue(same(raised(BadText, read_facts, f"{name} 1"), 0))

    def test_names_ascend_and_differ(self):
        self.assertEqual(len(read_facts("a 1; a.b 1; aa 1; b.a 1")), 4)
        for text in ("b 1; a 1", "a 1; a 1", "a 1; a 2", "a.b 1; a 1", "aa 1; a.b 1", "a 1; c 1; b 1"):
            self.assertTrue(same(raised(BadText, read_facts, text), 0))

    def test_signs_between(self):
        for text in ("a 1;b 1", "a 1 ; b 1", "a 1;  b 1", "a 1; b  1", "a  1", " a 1", "a 1 ", "a 1;", "a 1; ", "; a 1",
                     "a 1, b 1", "a 1; -", "-; a 1", "a 1 b 1",
                     "a", "a 1 1", "a=1", "- -", "a 1; b 1;", "a yes for 1"):
            self.assertTrue(same(raised(BadText, read_facts, text), 0))

    def test_a_second_line(self):
        for reader, first in ((read_facts, "a 1"), (read_known, "a 1 for 1"), (read_facts, "-"), (read_known, "-")):
            for second in ("", first, "b 1", "-", "\n"):
                self.assertTrue(same(raised(BadText, reader, f"{first}\n{second}"), 1))
                self.assertTrue(same(raised(BadText, reader, f"{first} \n{second}"), 0))
                self.assertTrue(same(raised(BadText, reader, f"\n{first}"), 0))


class KnownTest(unittest.TestCase):
    def test_written_and_read_back(self):
        for lines in ((), (("a", True, 0),), (("a", 5, None), ("a.n", -5, 3), ("a.w", "lo", 1), ("b", False, 2))):
            self.assertEqual(read_known(show_known(Known(lines))), Known(lines))
        self.assertEqual(show_known(read_known(KNOWN)), KNOWN)

    def test_lives(self):
        for word, life in (("0", 0), ("1", 1), ("2", 2), ("3", 3), ("ever", None)):
            self.assertTrue(same(read_known(f"a yes for {word}").lines, (("a", True, life),)))
        for word in ("4", "-1", "-0", "00", "01", "", "never", "none", "ever ", "10", "yes", "-"):
            self.assertTrue(same(raised(BadText, read_known, f"a yes for {word}"), 0))

    def test_forms(self):
        for text in ("a yes", "a yes 1", "a yes for", "a for 1", "a yes For 1", "a yes for 1 for 1", "yes for 1",
                     "a yes fur 1", "a yes  for 1", "a yes for  1",
                     "a yes for 1; b yes", "a yes for 1; a yes for 1", "b yes for 1; a yes for 1",
                     "a yes for 1;b yes for 1", "a yes for 1;  b yes for 1"):
            self.assertTrue(same(raised(BadText, read_known, text), 0))


class TreeTest(unittest.TestCase):
    def test_settled(self):
        for word, result in (("grant", "grant"), ("0", 0), ("12", 12), ("999999999999", 999999999999), ("yes", "yes"),
                             ("none", "none"), ("no", "no"), ("x" * 12, "x" * 12)):
            self.assertTrue(same(read_tree(f"settled {word}"), ("settled", result)))
            self.assertEqual(show_tree(("settled", result)), f"settled {word}")
        for word in ("-1", "01", "-0", "1000000000000", "x" * 13, "", "a.b", "Go", "go go", "1 2", "-"):
            self.assertTrue(same(raised(BadText, read_tree, f"settled {word}"), 0))

    def test_answers(self):
        for written, answers in (
            ("yes", ((True,),)), ("none", (None,)), ("none none", (("none", "none"),)), ("1 none", ((1, "none"),)),
            ("-5 lo no", ((-5, "lo", False),)),
            ("5 5 5 5 5", ((5, 5, 5, 5, 5),)), ("true", (("true",),)),
        ):
            text = f"ask a\nwhen {written}\n  settled go"
            self.assertTrue(same(read_tree(text), ("ask", ("a",), ((answers, ("settled", "go")),))))
            self.assertEqual(show_tree(read_tree(text)), text)
        text = "ask a b c\nwhen none / 1 no / lo\n  settled 0"
        self.assertTrue(same(read_tree(text),
                             ("ask", ("a", "b", "c"), (((None, (1, False), ("lo",)), ("settled", 0)),))))
        for written in ("yes / no", "", "/", "yes /", "/ yes", "yes/no", "yes / / no", "01", "1000000000000", "x" * 13,
                        "-0", "Yes", "yes  no", " yes", "yes ", "-"):
            self.assertTrue(same(raised(BadText, read_tree, f"ask a\nwhen {written}\n  settled go"), 1))

    def test_as_many_answers_as_names(self):
        for names, written, line in (("a b", "yes", 1), ("a b", "yes / no / yes", 1), ("a", "yes / no", 1),
                                     ("a b", "yes / no", None)):
            text = f"ask {names}\nwhen {written}\n  settled go"
            self.assertEqual(show_tree(read_tree(text)) == text if line is None else raised(BadText, read_tree, text),
                             line or True)
        self.assertEqual(raised(BadText, read_tree, "ask a b\nwhen yes / no\n  settled go\nwhen no\n  settled go"), 3)

    def test_names_of_sources(self):
        for names in ("a", "a b", "in no yes", "x" * 12, "a aa b ba"):
            text = f"ask {names}\nwhen {' / '.join(['none'] * len(names.split()))}\n  settled go"
            self.assertEqual(read_tree(text)[1], tuple(names.split()))
        for names in ("", "b a", "a a", "a.b", "A", "a  b", " a", "a ", "x" * 13, "a1", "-", "a,b"):
            self.assertTrue(same(raised(BadText, read_tree, f"ask {names}\nwhen yes\n  settled go"), 0))

    def test_one_branch_or_more(self):
        self.assertEqual(raised(BadText, read_tree, "ask a"), 1)
        self.assertEqual(raised(BadText, read_tree, "ask a\nsettled go"), 1)
        self.assertEqual(raised(BadText, read_tree, "ask a\n  settled go"), 1)
        self.assertEqual(len(read_tree("ask a\n" + "\n".join(["when yes\n  settled go"] * 30))[2]), 30)

    def test_trees_that_end_too_early(self):
        self.assertEqual(raised(BadText, read_tree, "ask a\nwhen yes"), 2)
        self.assertEqual(raised(BadText, read_tree, "ask a\nwhen yes\n  ask b\n  when 1"), 4)
        self.assertEqual(raised(BadText, read_tree, "ask a\nwhen yes\n  settled go\nwhen no"), 4)
        lines = show_tree(plan(Program(LOAN), Known()).tree).split("\n")
        for many in range(1, len(lines), 7):
            text = "\n".join(lines[:many])
            cut = read(read_tree, text)
            self.assertEqual(cut if isinstance(cut, int) else many, many)

    def test_blanks(self):
        lines = ASK.split("\n")
        for at in range(5):
            for blanks in (" ", "  ", "   ", "    "):
                text = "\n".join([*lines[:at], blanks + lines[at], *lines[at + 1:]])
                self.assertEqual(raised(BadText, read_tree, text), at)
        for at in (2, 4):
            for less in (1, 2):
                text = "\n".join([*lines[:at], lines[at][less:], *lines[at + 1:]])
                self.assertEqual(raised(BadText, read_tree, text), at)

    def test_lines_behind_the_end(self):
        for text, line in (("settled go\n", 1), ("settled go\nsettled go", 1), (f"{ASK}\n", 5),
                           (f"{ASK}\nsettled go", 5), (f"{ASK}\n  settled go", 5), ("settled go\nwhen yes", 1)):
            self.assertEqual(raised(BadText, read_tree, text), line)

    def test_sixty_asks_in_one_another(self):
        self.assertEqual(show_tree(read_tree(deep(60))), deep(60))
        self.assertEqual(raised(BadText, read_tree, deep(61)), 120)
        self.assertEqual(raised(BadText, read_tree, deep(90)), 120)
        self.assertEqual(raised(BadText, read_tree, deep(60, "settled Go")), 120)
        wide = deep(60) + "\nwhen no\n  ask a\n  when yes\n    settled go"
        self.assertEqual(show_tree(read_tree(wide)), wide)

    def test_trees_of_plans(self):
        for text in (BOTH, POINTER, LOAN):
            for rows in (False, True):
                tree = plan(Program(text), Known(), rows=rows).tree
                self.assertTrue(same(read_tree(show_tree(tree)), tree))
        self.assertEqual(show_tree(plan(Program(BOTH), Known()).tree), "\n".join([
            "ask a b", "when no / no", "  settled refuse", "when no / yes", "  settled refuse", "when yes / no",
            "  settled refuse", "when yes / yes", "  settled grant"]))

    def test_trees_of_drawn_programs(self):
        draw = random.Random(51)
        for _ in range(60):
            program = drawing.program(draw, 1, 3)
            known = drawing.known_of(draw, program, draw.choice(drawing.all_worlds(program)), 0.3)
            tree = plan(program, known, rows=draw.random() < 0.5).tree
            self.assertTrue(same(read_tree(show_tree(tree)), tree))
            self.assertEqual(read_known(show_known(known)), known)
            self.assertEqual(read_facts(show_facts(known.facts)), known.facts)


class ByForms:
    """What the document says of the texts, as patterns, and line by line with a stack for trees."""

    WORD = "[a-z]{1,12}"
    NUMBER = "(?:0|-?[1-9][0-9]{0,11})"
    VALUE = f"(?:{WORD}|{NUMBER})"
    ANSWER = f"{VALUE}(?: {VALUE})*"
    NAME = rf"{WORD}(?:\.{WORD})?"

    def value(self, word):
        if word in ("yes", "no"):
            return word == "yes"
        return word if word.isalpha() else int(word)

    def items(self, text, pattern):
        """The items of a line of this pattern, None if it is none; names ascend."""
        if text == "-":
            return []
        parts = text.split("; ")
        if not all(re.fullmatch(pattern, part) for part in parts):
            return None
        names = [part.split(" ")[0] for part in parts]
        return [part.split(" ") for part in parts] if names == sorted(set(names)) else None

    def facts(self, text):
        first, *more = text.split("\n")
        items = self.items(first, f"{self.NAME} {self.VALUE}")
        return 0 if items is None else 1 if more else Facts(tuple((name, self.value(word)) for name, word in items))

    def known(self, text):
        first, *more = text.split("\n")
        items = self.items(first, f"{self.NAME} {self.VALUE} for (?:[0-3]|ever)")
        if items is None or more:
            return 0 if items is None else 1
        return Known(tuple((name, self.value(word), None if life == "ever" else int(life)) for name, word, _,
                           life in items))

    def tree_line(self, text):
        """The line at which a tree is not well written, None if it is."""
        lines = text.split("\n")
        stack = [("tree", 0)]
        for at, line in enumerate(lines):
            blanks = len(line) - len(line.lstrip(" "))
            told = line[blanks:]
            # A branch more, if it is one of an ask that stands as deep; all others are at their end.
            is_branch = told.split(" ")[0] == "when"
            while stack and stack[-1][0] == "more" and not (is_branch and blanks == 2 * stack[-1][1]):
                stack.pop()
            if not stack or blanks != 2 * stack[-1][1]:
                return at
            kind, depth, *many = stack.pop()
            if kind == "tree" and re.fullmatch(f"settled (?:{self.WORD}|0|[1-9][0-9]{{0,11}})", told):
                continue
            if kind == "tree":
                names = told.split(" ")[1:]
                if not re.fullmatch(f"ask(?: {self.WORD})+", told) or names != sorted(set(names)) or depth >= 60:
                    return at
                stack.append(("first", depth, len(names)))
                continue
            if not re.fullmatch(f"when {self.ANSWER}(?: / {self.ANSWER})*", told) or len(told.split(" / ")) != many[0]:
                return at
            stack += [("more", depth, many[0]), ("tree", depth + 1)]
        return None if all(frame[0] == "more" for frame in stack) else len(lines)


class ChangedTextsTest(unittest.TestCase):
    SIGNS = "abyn019 -;./\n"
    WORDS = ("yes", "no", "none", "for", "ever", "-", "/", ";", "0", "3", "4", "-1", "lo", "ask", "when", "settled",
             "a", "a.x", "b", "", "  ", "1000000000000", "x" * 13)

    def changed(self, draw, text):
        kind = draw.randrange(7)
        at = draw.randrange(len(text) + 1)
        if kind == 0:
            return text[:at] + text[at + 1:]
        if kind == 1:
            return text[:at] + draw.choice(self.SIGNS) + text[at:]
        if kind == 2:
            return text[:at] + draw.choice(self.SIGNS) + text[at + 1:]
        between = "\n" if kind == 6 else " "
        parts = text.split(between)
        at = draw.randrange(len(parts))
        if kind == 3:
            return between.join(parts[:at] + parts[at + 1:])
        if kind == 4:
            return between.join([*parts[:at], draw.choice(self.WORDS), *parts[at:]])
        if kind == 5:
            return between.join([*parts[:at], draw.choice(self.WORDS), *parts[at + 1:]])
        other = draw.randrange(len(parts))
        parts[at], parts[other] = parts[other], parts[at]
        return between.join(parts)

    def test_facts_and_standings(self):
        draw = random.Random(52)
        forms = ByForms()
        seen = {True: 0, False: 0}
        for text, reader, expected in ((FACTS, read_facts, forms.facts), (KNOWN, read_known, forms.known),
                                       ("a 1; b no", read_facts, forms.facts)):
            for _ in range(2500):
                other = self.changed(draw, text if draw.random() < 0.8 else self.changed(draw, text))
                found = read(reader, other)
                self.assertTrue(same(found, expected(other)), other)
                seen[isinstance(found, int)] += 1
                if not isinstance(found, int):
                    self.assertEqual((show_facts if reader is read_facts else show_known)(found), other)
        self.assertGreater(min(seen.values()), 500)

    def test_trees(self):
        draw = random.Random(53)
        forms = ByForms()
        seen = {True: 0, False: 0}
        whole = [ASK, show_tree(plan(Program(POINTER), Known()).tree),
                 "ask a bb\nwhen none / 5 lo\n  ask c\n  when -7\n    settled 0\n  when no\n    settled 12\n"
                 "when yes / none\n  settled no"]
        for text in whole:
            for _ in range(2500):
                other = self.changed(draw, text if draw.random() < 0.8 else self.changed(draw, text))
                found, line = read(read_tree, other), forms.tree_line(other)
                self.assertEqual(found if isinstance(found, int) else None, line, other)
                seen[line is None] += 1
                if line is None:
                    self.assertEqual(show_tree(found), other)
        self.assertGreater(min(seen.values()), 300)


if __name__ == "__main__":
    unittest.main()
