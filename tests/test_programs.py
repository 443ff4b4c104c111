import unittest

from onlyasked.errors import BadProgram, Doubled, NoWorld, RingOfRules, TooLarge, Unnamed
from onlyasked.programs import Program
from samples import FIVE, HEAD, LOAN, any_values, raised, with_rows

RESERVED = (
    "round source price stay maybe common yes no none given rule decide if otherwise true false there points in not and or"
).split()


def bad_line(text):
    return raised(BadProgram, Program, text)


def nested(opening, many, closing):
    return opening * many + "a.b" + closing * many


class PropertiesTest(unittest.TestCase):
    def test_loan(self):
        loan = Program(LOAN)
        self.assertEqual(loan.text, LOAN)
        self.assertEqual(loan.sources, ("person", "work", "market"))
        names = ("market.open", "person.age", "person.home", "work", "work.fixed", "work.income")
        self.assertEqual(loan.names, names)
        self.assertEqual(loan.outcomes, ("grant", "look", "refuse"))

    def test_outcomes_are_named_once(self):
        program = Program(with_rows("decide stop if a.b", "decide halt if m.x", "decide stop if there m"))
        self.assertEqual(program.outcomes, ("halt", "stop"))

    def test_text_may_be_given_by_name(self):
        self.assertEqual(Program(text=FIVE).text, FIVE)

    def test_programs_are_equal_if_their_texts_are(self):
        self.assertTrue(Program(FIVE) == Program(FIVE))
        self.assertFalse(Program(FIVE) != Program(FIVE))
        self.assertTrue(Program(FIVE) != Program(LOAN))
        self.assertFalse(Program(FIVE) == Program(FIVE.replace("> 4", ">4")))
        for value in [FIVE, *[one for one in any_values() if not isinstance(one, Program)]]:
            self.assertFalse(Program(FIVE) == value)
            self.assertFalse(value == Program(FIVE))

    def test_methods_stand_in_the_class(self):
        self.assertIn("__eq__", vars(Program))
        self.assertEqual(Program.__module__, "onlyasked.programs")


class GoodFormsTest(unittest.TestCase):
    def good(self, *rows):
        text = with_rows(*rows)
        self.assertEqual(Program(text).text, text)

    def test_expressions(self):
        for written in (
            "true", "false", "(true)", "a.b", "a . b", "a. b", "a .b", "not a.b", "not not a.b", "there m", "not there m",
            "a.n = 5", "a.n=5", "a.n =5", "a.n= 5", "a.n < -5", "a.n>-5", "a.n = 1000000", "a.n > -1000000", "a.n = 0",
            "a.w = mid", "a.w=mid", "a.w in (lo)", "a.w in(lo,mid)", "a.w in ( lo , mid )", "a.w in (lo, lo)",
            "a.b or m.x and not a.b", "(a.b or m.x) and a.b", "(a.b)or(m.x)", "not(a.b)",
            "points(2 a.b) > 1", "points ( -9 a.b , 9 m.x ) = -1000000", "points(0 a.b or m.x, 1 not a.b) < 0",
            "points(1(a.b), 2 points(1 a.b) = 1)=1000000", "points(1 a.b)>-5",
        ):
            with self.subTest(written):
                self.good(f"given true or {written}")
                self.good(f"rule r {written}")
                self.good(f"decide go if {written}")

    def test_rules_may_be_named_ahead_of_their_line(self):
        self.good("given r", "rule s not r", "rule r true")

    def test_most_lines(self):
        self.good(*["given true"] * 6, *[f"rule r{chr(97 + k)} a.b" for k in range(12)], *["decide go if a.b"] * 12)

    def test_most_sources_and_fields(self):
        fields = ["  a yes", "  b yes", "  c yes", "  d yes"]
        lines = ["round 9"]
        for name in "abcde":
            lines.extend([f"source {name} price 9", *fields])
        Program("\n".join([*lines, "otherwise a"]))
        self.assertEqual(bad_line("\n".join([*lines, "  e yes", "otherwise a"])), len(lines))
        self.assertEqual(bad_line("\n".join([*lines, "source f price 1", "  a yes", "otherwise a"])), len(lines))

    def test_most_tokens(self):
        self.good("rule r " + " or ".join(["true"] * 150))
        self.good("rule r not " + " or ".join(["true"] * 150))
        self.assertEqual(bad_line(with_rows("rule r not not " + " or ".join(["true"] * 150))), len(HEAD))
        self.assertEqual(bad_line(with_rows("rule r a.b and a.w in (" + ", ".join(["lo"] * 150) + ")")), len(HEAD))

    def test_most_brackets(self):
        for opening, closing in (("(", ")"), ("not ", ""), ("points(1 ", ")>0")):
            self.good("rule r " + nested(opening, 20, closing))
            self.assertEqual(bad_line(with_rows("rule r " + nested(opening, 21, closing))), len(HEAD))
        self.good("rule r " + nested("(not ", 10, ")"))
        self.assertEqual(bad_line(with_rows("rule r (" + nested("(not ", 10, ")") + ")")), len(HEAD))
        self.good("rule r " + "(" * 20 + "a.w in (lo)" + ")" * 20)
        self.good("rule r " + " and ".join([nested("(", 20, ")")] * 6))
        self.good("rule r " + " and ".join(["not a.b"] * 40))
        self.good("rule r " + " and ".join(["points(1 a.b) > 0"] * 25))

    def test_brackets_that_are_closed_do_not_count_for_others(self):
        for closed in ("(a.b)", "not a.b", "points(1 a.b) > 0"):
            for opening, closing in (("(", ")"), ("not ", ""), ("points(1 ", ")>0")):
                with self.subTest((closed, opening)):
                    self.good(f"rule r {closed} and " + nested(opening, 20, closing))
                    text = with_rows(f"rule r {closed} and " + nested(opening, 21, closing))
                    self.assertEqual(bad_line(text), len(HEAD))

    def test_sources_with_each_tail(self):
        for tail in ("", " stay 0", " stay 3", " maybe", " common", " stay 1 maybe", " stay 1 common", " maybe common",
                     " stay 2 maybe common"):
            with self.subTest(tail):
                Program(f"round 0\nsource a price 1{tail}\n  x yes\notherwise go")

    def test_fields(self):
        for tail in ("0..0", "-1000000..1000000", "-5..-1", "yes", "lo hi", "a b c d e f g h", "abcdefghijkl x"):
            with self.subTest(tail):
                Program(f"round 0\nsource a price 1\n  x {tail}\notherwise go")

    def test_names_may_be_alike_elsewhere(self):
        Program("round 0\nsource a price 1\n  a a b\nsource b price 1\n  a b a\nrule go a.a = a\n"
                "decide go if go\ndecide go if b.a = b\notherwise a")


class BadProgramTest(unittest.TestCase):
    def test_example(self):
        self.assertEqual(bad_line("round 1\nsource a price 1\n  x yes\notherwise in"), 3)

    def test_what_is_no_string(self):
        for value in any_values():
            if not isinstance(value, str):
                self.assertEqual(bad_line(value), 0)

    def test_lines_that_end_too_early(self):
        lines = LOAN.split("\n")
        for many in range(1, len(lines)):
            self.assertEqual(bad_line("\n".join(lines[:many])), many)
        self.assertEqual(bad_line(""), 0)

    def test_lines_that_are_left_out(self):
        lines = ["round 1", "source a price 1", "  x yes", "otherwise go"]
        self.assertEqual(bad_line("\n".join(lines[1:])), 0)
        self.assertEqual(bad_line("\n".join([lines[0], *lines[2:]])), 1)
        self.assertEqual(bad_line("\n".join([*lines[:2], lines[3]])), 2)
        self.assertEqual(bad_line("\n".join([lines[0], lines[3]])), 1)

    def test_lines_that_stand_elsewhere(self):
        text = with_rows("given true", "rule r true", "decide go if r")
        lines = text.split("\n")
        first = len(HEAD)
        for one, other in ((first, first + 1), (first + 1, first + 2), (first, first + 2)):
            turned = list(lines)
            turned[one], turned[other] = turned[other], turned[one]
            self.assertEqual(bad_line("\n".join(turned)), one + 1)
        for more in ("round 0", "source b price 1", "  y yes", "given true", "rule s true", "decide go if true",
                     "otherwise go", "", " "):
            self.assertEqual(bad_line(text + "\n" + more), len(lines))
        for more in ("round 0", "source b price 1", "  y yes", "", "start", "field"):
            self.assertEqual(bad_line("\n".join([*lines[:first + 1], more, *lines[first + 1:]])), first + 1)
        self.assertEqual(bad_line(text.replace("source m price 1 maybe\n", "source m price 1\nsource o price 1\n")), 6)

    def test_too_many_lines(self):
        for row, most in (("given true", 6), ("rule {} true", 12), ("decide go if true", 12)):
            rows = [row.format("r" + chr(97 + k)) for k in range(most + 1)]
            self.assertEqual(bad_line(with_rows(*rows)), len(HEAD) + most)

    def test_the_first_line_counts_and_bad_lines_come_first(self):
        text = "round 1\nsource a price 1\n  x yes\n  x yes\ndecide go if b.x\nrule r r\notherwise go"
        self.assertEqual(bad_line(text), 5)
        self.assertEqual(bad_line(text.replace("round 1", "round x")), 0)

    def test_round_lines(self):
        for line in ("round", "round ", "round 10", "round -1", "round 01", "round 1 ", "round  1", " round 1", "Round 1",
                     "round x", "round 1 2", "round -0", "round 1\r", "round\t1", "round \u0661", "round +1"):
            with self.subTest(line):
                self.assertEqual(bad_line(f"{line}\nsource a price 1\n  x yes\notherwise go"), 0)

    def test_source_lines(self):
        for line in ("source", "source a", "source a price", "source a price 0", "source a price 10", "source a price 01",
                     "source a price 1 ", "source a price 1 stay", "source a price 1 stay 4", "source a price 1 stay -1",
                     "source a price 1 stay maybe", "source a price 1 maybe stay 1", "source a price 1 common maybe",
                     "source a price 1 maybe maybe", "source a price 1 stay 1 stay 1", "source a price 1 often",
                     "source a  price 1", "source A price 1", "source a1 price 1", "source abcdefghijklm price 1",
                     "source a cost 1", "source a price x", "source  price 1", "sources a price 1", " source a price 1",
                     "source a price 1 common common", "source a.b price 1"):
            with self.subTest(line):
                self.assertEqual(bad_line(f"round 0\n{line}\n  x yes\notherwise go"), 1)

    def test_field_lines(self):
        for line in (" x yes", " q x yes", "   x yes", "x yes", "  x", "  x ", "  x  yes", "  x yes ", "  x yes no", "  x no",
                     "  x word", "  x 5", "  x 5..4", "  x 0..1000001", "  x -1000001..0", "  x 00..5", "  x 0..05",
                     "  x -0..5", "  x 0..", "  x ..5", "  x 0...5", "  x 0..5..9", "  x 0 .. 5", "  x 0..5 lo",
                     "  x a b c d e f g h i", "  x lo yes", "  x lo HI", "  x lo hi ", "  x lo  hi", "  X yes", "  yes yes",
                     "  x lo abcdefghijklm", "  abcdefghijklm yes", "  x 0.5", "\tx yes", "  x +0..5", "  x.y yes",
                     "  x 0..99999999999999999999", "  x lo in"):
            with self.subTest(line):
                self.assertEqual(bad_line(f"round 0\nsource a price 1\n{line}\notherwise go"), 2)

    def test_very_long_numbers(self):
        self.assertEqual(bad_line("round 0\nsource a price 1\n  x 0.." + "9" * 9000 + "\notherwise go"), 2)
        self.assertEqual(bad_line(with_rows("rule r a.n > " + "9" * 9000)), len(HEAD))
        self.assertEqual(bad_line("round " + "0" * 9000), 0)

    def test_given_rule_decide_and_otherwise_lines(self):
        for line in ("given", "given ", "given  a.b", "given(a.b)", "given a.b ", "givena.b", " given a.b",
                     "rule", "rule r", "rule r ", "rule r  a.b", "rule r(a.b)", "rule R a.b", "rule a.b", "rule  r a.b",
                     "rule rabcdefghijkl a.b", "rule r1 a.b",
                     "decide", "decide go", "decide go if", "decide go if ", "decide go if(a.b)", "decide go if  a.b",
                     "decide go  if a.b", "decide GO if a.b", "decide go a.b", "decide go of a.b", "decide if a.b", "decide goo! if a.b",
                     "otherwise", "otherwise ", "otherwise go ", "otherwise go on", "otherwise GO", "otherwise  go",
                     "otherwise abcdefghijklm"):
            with self.subTest(line):
                self.assertEqual(bad_line(with_rows(line)), len(HEAD))

    def test_names_that_may_not_be(self):
        for word in RESERVED:
            with self.subTest(word):
                self.assertEqual(bad_line(f"round 0\nsource {word} price 1\n  x yes\notherwise go"), 1)
                self.assertEqual(bad_line(f"round 0\nsource a price 1\n  {word} yes\notherwise go"), 2)
                self.assertEqual(bad_line(f"round 0\nsource a price 1\n  x lo {word}\notherwise go"), 2)
                self.assertEqual(bad_line(with_rows(f"rule {word} a.b")), len(HEAD))
                self.assertEqual(bad_line(with_rows(f"decide {word} if a.b")), len(HEAD))
                self.assertEqual(bad_line(with_rows(f"otherwise {word}")), len(HEAD))
                self.assertEqual(bad_line(with_rows(f"given a.{word}")), len(HEAD))
                self.assertEqual(bad_line(with_rows(f"given {word}.x")), len(HEAD))
                self.assertEqual(bad_line(with_rows(f"given a.w = {word}")), len(HEAD))
                self.assertEqual(bad_line(with_rows(f"given a.w in ({word})")), len(HEAD))
                self.assertEqual(bad_line(with_rows(f"given there {word}")), len(HEAD))
                if word not in ("true", "false"):
                    self.assertEqual(bad_line(with_rows(f"given {word}")), len(HEAD))

    def test_expressions(self):
        for written in (
            "", "()", "(a.b", "a.b)", "a.b a.b", "a.b or", "or a.b", "a.b and", "and a.b", "not", "a.b not", "a.",
            ".b", "a..b", "a.b.c", "there", "there m.x", "there not m", "there (m)", "a.n =", "a.n < mid", "a.n > mid",
            "a.n = 1000001", "a.n = -1000001", "a.n = -0", "a.n = 01", "a.n = - 5", "a.n = --5", "a.n = 1.5", "a.n == 1",
            "a.n <= 1", "a.n != 1", "5 < a.n", "a.n < 5 < 6", "a.w in", "a.w in ()", "a.w in lo", "a.w in (lo",
            "a.w in (lo,)", "a.w in (lo mid)", "a.w in (5)", "a.w in ((lo))", "a.n = (5)", "points", "points()", "points(1)",
            "points(1 a.b)", "points(1 a.b) >", "points(1 a.b) > lo", "points(1 a.b) in (lo)", "points(10 a.b) > 1",
            "points(-10 a.b) > 1", "points(1 a.b,) > 1", "points(1 a.b 1 a.b) > 1", "points(a.b) > 1", "points(1a.b) > 1",
            "points(1 a.b) > 1000001", "points(01 a.b) > 1", "points 1 a.b > 1", "points(1 a.b) > - 1", "points(-0 a.b) > 1",
            "(a.b)  or (m.x)", "a.b  or m.x", "a.b or  m.x", "( a.b ) ", " a.b", "a.b ", "notA a.b", "a.b\tor m.x", "a.b;",
            "a.n = +5", "a.abcdefghijklm", "a.b or m,x", "truefalse x", "a.n = 5a", "a.n = five5", "a.b |m.x", "a_b", "A.b",
            "a.n = 5-5", "a.n -5", "true.b", "there.x",
        ):
            with self.subTest(written):
                self.assertEqual(bad_line(with_rows(f"given {written}")), len(HEAD))
                self.assertEqual(bad_line(with_rows(f"rule r {written}")), len(HEAD))
                self.assertEqual(bad_line(with_rows("given true", f"decide go if {written}")), len(HEAD) + 1)


class DoubledTest(unittest.TestCase):
    def line(self, text):
        return raised(Doubled, Program, text)

    def test_sources(self):
        self.assertEqual(self.line("round 0\nsource a price 1\n  x yes\nsource a price 2\n  y yes\notherwise go"), 3)

    def test_fields_and_words(self):
        self.assertEqual(self.line("round 0\nsource a price 1\n  x yes\n  y yes\n  x 0..5\notherwise go"), 4)
        self.assertEqual(self.line("round 0\nsource a price 1\n  x yes\n  y lo hi lo\notherwise go"), 3)

    def test_rules(self):
        self.assertEqual(self.line(with_rows("rule r a.b", "rule s a.b", "rule r m.x")), len(HEAD) + 2)
        self.assertEqual(self.line(with_rows("rule r a.b", "rule m a.b")), len(HEAD) + 1)

    def test_the_first_line_counts(self):
        text = "round 0\nsource a price 1\n  x yes\n  y lo lo\nsource a price 1\n  x yes\nrule a true\notherwise go"
        self.assertEqual(self.line(text), 3)
        self.assertEqual(self.line(text.replace("lo lo", "lo hi")), 4)
        self.assertEqual(self.line(text.replace("lo lo", "lo hi").replace("\nsource a", "\nsource b", 2)
                                   .replace("source b", "source a", 1)), 6)

    def test_doubled_comes_ahead_of_unnamed(self):
        self.assertEqual(self.line(with_rows("given nowhere", "rule r r", "rule r r")), len(HEAD) + 2)


class UnnamedTest(unittest.TestCase):
    def test_each_way(self):
        for written in (
            "o.b", "a.c", "m.b", "r", "a", "m", "there a", "there o", "there s", "a.n", "a.w", "a.b = 1", "a.b < 1",
            "a.b > 1", "a.b = lo", "a.b in (lo)", "a.n = lo", "a.n in (lo)", "a.w = 1", "a.w < 1", "a.w > 1", "a.w = low",
            "a.w in (lo, low)", "s.b", "m.x and o.b", "points(1 true, 2 r) > 1", "not not r",
        ):
            with self.subTest(written):
                for rows, line in (([f"given {written}", "rule s r"], 0), (["rule s true", f"rule t {written}"], 1),
                                   (["rule s true", f"decide go if {written}", "decide go if o.o"], 1)):
                    self.assertEqual(raised(Unnamed, Program, with_rows(*rows)), len(HEAD) + line)

    def test_unnamed_comes_ahead_of_a_ring(self):
        self.assertEqual(raised(Unnamed, Program, with_rows("rule r r", "decide go if s")), len(HEAD) + 1)


class RingOfRulesTest(unittest.TestCase):
    def ring(self, **rules):
        rows = [f"rule {name} " + " or ".join(["false", *named.split()]) for name, named in rules.items()]
        names = raised(RingOfRules, Program, with_rows(*rows))
        self.assertIsInstance(names, tuple)
        self.assertGreater(len(names), 0)
        for one, other in zip(names, [*names[1:], names[0]]):
            self.assertIn(other, rules[one].split())
        return names

    def test_example(self):
        text = "round 0\nsource a price 1\n  x yes\nrule r s\nrule s r\notherwise go"
        self.assertIn(raised(RingOfRules, Program, text), (("r", "s"), ("s", "r")))

    def test_rings(self):
        self.assertEqual(self.ring(r="r"), ("r",))
        self.assertEqual(self.ring(q="", r="s q", s="q s"), ("s",))
        self.assertEqual(sorted(self.ring(q="r", r="s", s="t u", t="", u="r")), ["r", "s", "u"])

    def test_rules_without_a_ring(self):
        Program(with_rows("rule r s or t", "rule s t", "rule t a.b", "rule u r and s and t"))

    def test_a_ring_comes_ahead_of_what_is_too_large(self):
        lines = [f"rule r{'abcdefghij'[k]} a.n = {k}" for k in range(9)]
        self.assertEqual(raised(RingOfRules, Program, with_rows("given false", *lines, "rule r r")), ("r",))


class TooLargeTest(unittest.TestCase):
    def text(self, many, other, *more):
        rule = " or ".join([f"a.n = {k}" for k in range(1, many)])
        second = " or ".join([f"m.n = {k}" for k in range(1, other)])
        return "\n".join(["round 0", "source a price 1", "  n 0..100", "source m price 1 maybe", "  n 0..100", *more,
                          f"rule r {rule}", f"rule s {second}", "otherwise go"])

    def test_just_above(self):
        self.assertEqual(len(Program(self.text(20, 19)).mark_worlds), 400)
        self.assertEqual(raised(TooLarge, Program, self.text(20, 20)), 420)
        self.assertEqual(raised(TooLarge, Program, self.text(21, 19, "given false")), 420)
        self.assertEqual(raised(TooLarge, Program, self.text(40, 40)), 1640)

    def test_one_above(self):
        places = [f"a.n = {k}" for k in range(1, 401)]
        rules = [f"rule r{'abcdefgh'[k]} " + " or ".join(places[k * 50:k * 50 + 50]) for k in range(8)]
        text = "\n".join(["round 0", "source a price 1", "  n 0..1000", *rules, "otherwise go"])
        self.assertEqual(raised(TooLarge, Program, text), 401)
        self.assertEqual(len(Program(text.replace("n 0..1000", "n 1..400")).mark_worlds), 400)

    def test_what_nothing_names_does_not_count(self):
        Program("round 0\nsource a price 1\n  n -1000000..1000000\notherwise go")


class NoWorldTest(unittest.TestCase):
    def test_no_world(self):
        for rows in (["given false"], ["given a.b", "given not a.b"], ["given a.n > 9"], ["given a.n < -5 or a.n = 10"],
                     ["given m.x", "given not there m"], ["given there m", "given r", "rule r not there m"]):
            with self.subTest(rows):
                self.assertIsNone(raised(NoWorld, Program, with_rows(*rows)))

    def test_a_single_world_is_enough(self):
        self.assertEqual(len(Program(with_rows("given a.n > 8", "given not there m")).mark_worlds), 1)


class BoundsTest(unittest.TestCase):
    """Each bound of the lines, just at it and just beyond it."""

    def check(self, template, line, good, bad):
        """Whether a text is a program with each of the good ones in it, and has this bad line with the bad ones."""
        for one in good:
            with self.subTest((template, one)):
                Program(template.format(one))
        for one in bad:
            with self.subTest((template, one)):
                self.assertEqual(bad_line(template.format(one)), line)

    def test_rounds_prices_and_stays(self):
        rest = "\nsource a price 1\n  x yes\notherwise go"
        self.check("round {}" + rest, 0, range(10), [-1, 10, 11, 99, "00", "1.0", "one", ""])
        for tail in ("", " stay 0", " stay 3", " maybe", " common", " stay 1 maybe common"):
            self.check("round 0\nsource a price {}" + tail + "\n  x yes\notherwise go", 1, range(1, 10), [-1, 0, 10, 11, "09"])
        for tail in ("", " maybe", " common", " maybe common"):
            self.check("round 0\nsource a price 1 stay {}" + tail + "\n  x yes\notherwise go", 1, range(4), [-1, 4, 5, 10, "00", "ever"])

    def test_integers_of_a_field(self):
        text = "round 0\nsource a price 1\n  x {}\notherwise go"
        self.check(text, 2, ["-1000000..-1000000", "1000000..1000000", "-1000000..1000000", "-1..0", "0..0", "999999..1000000"],
                   ["-1000001..0", "0..1000001", "1000001..1000001", "-1000001..-1000001", "1..0", "0..-1", "-1..-2", "1000000..999999",
                    "0000000..1", "0..01", "-0..0", "0..-0", "0..10000000", "-10000000..0"])

    def test_words_of_a_field(self):
        words = [chr(97 + at) * 3 for at in range(10)]
        text = "round 0\nsource a price 1\n  x {}\notherwise go"
        self.check(text, 2, [" ".join(words[:many]) for many in range(2, 9)], [" ".join(words[:many]) for many in (0, 1, 9, 10)])

    def test_numbers_of_lines(self):
        for many in range(1, 6):
            Program("\n".join(["round 0", *[f"source {name} price 1\n  x yes" for name in "abcde"[:many]], "otherwise go"]))
        self.assertEqual(bad_line("round 0\notherwise go"), 1)
        six = "\n".join(["round 0", *[f"source {name} price 1\n  x yes" for name in "abcdef"], "otherwise go"])
        self.assertEqual(bad_line(six), 11)
        for many in range(1, 5):
            Program("\n".join(["round 0", "source a price 1", *[f"  {name} yes" for name in "abcd"[:many]], "otherwise go"]))
        self.assertEqual(bad_line("round 0\nsource a price 1\notherwise go"), 2)
        five = ["round 0", "source a price 1", *[f"  {name} yes" for name in "abcde"], "otherwise go"]
        self.assertEqual(bad_line("\n".join(five)), 6)
        for row, most in (("given true", 6), ("rule {} true", 12), ("decide go if true", 12)):
            rows = [row.format("r" + chr(97 + at)) for at in range(most + 1)]
            for many in range(most + 1):
                Program(with_rows(*rows[:many]))
            self.assertEqual(bad_line(with_rows(*rows)), len(HEAD) + most)

    def test_letters_of_names(self):
        words = ["z", "qq", "abcdefghijkl", "rounds", "ins", "nots", "ors", "trues", "sourc", "wordsmithery"]
        others = ["abcdefghijklm", "a1", "a-b", "a_b", "A", "aB", "\u00e4", "", "1", "a.b"]
        places = ["source {} price 1\n  x yes", "source q price 1\n  {} yes", "source q price 1\n  x lo {}"]
        for at, place in enumerate(places):
            self.check("round 0\n" + place + "\notherwise go", 1 + (at > 0), words, others)
        for place in ("rule {} true", "decide {} if true", "otherwise {}"):
            text = "\n".join([*HEAD, place]) if place.startswith("otherwise") else with_rows(place)
            self.check(text, len(HEAD), words, others)

    def test_letters_of_names_in_expressions(self):
        for name in ("abcdefghijkl", "abcdefghijklm"):
            for written in (f"{name}", f"there {name}", f"{name}.x", f"a.{name}", f"a.w = {name}", f"a.w in (lo, {name})"):
                with self.subTest(written):
                    error = Unnamed if len(name) == 12 else BadProgram
                    self.assertEqual(raised(error, Program, with_rows(f"given {written}")), len(HEAD))

    def test_integers_of_expressions(self):
        integers = ["0", "-1", "9", "10", "1000000", "-1000000", "999999"]
        others = ["1000001", "-1000001", "10000000", "01", "00", "-0", "-01", "--1", "- 1", "+1", "1.0", ""]
        for place in ("given true or a.n = {}", "rule r a.n < {}", "decide go if a.n > {}", "given true or points(1 a.b) = {}",
                      "rule r points(1 a.b) < {}", "decide go if points(1 a.b) > {}"):
            self.check(with_rows(place), len(HEAD), integers, others)
        self.check(with_rows("rule r points(1 a.b, {} m.x) > 1"), len(HEAD), range(-9, 10),
                   ["-10", "10", "1000000", "00", "-0", "01", "+1", "", "- 1", "x"])

    def test_words_of_expressions(self):
        many = ", ".join(["lo", "mid", "hi"] * 20)
        self.check(with_rows("decide go if a.w in ({})"), len(HEAD), ["lo", "hi, lo", "lo, lo", many], ["", "lo,", ",", "lo lo", "1"])


class TokensTest(unittest.TestCase):
    """What counts as a token, how many there may be, and the blanks between them."""

    def test_the_three_hundredth_token(self):
        for many, written in (
            (1, "m.x and {}"), (2, "not {}"), (3, "a.b or {}"), (5, "a.n = -5 or {}"), (5, "a.n < 5 and {}"),
            (7, "a.w in (lo) or {}"), (9, "a.w in (lo, hi) or {}"), (9, "points(1 a.b) > -1 or {}"), (14, "points(1 a.b, -9 a.b) = 0 and {}"),
        ):
            for total in (299, 300, 301):
                with self.subTest((written, total)):
                    self.check(written, total)

    def tokens(self, written):
        """The tokens of an expression, counted anew."""
        for sign in "().,=<>":
            written = written.replace(sign, f" {sign} ")
        return len(written.split())

    def check(self, written, total):
        left = total - self.tokens(written.format(""))
        # A filling of this many tokens: `true or true ..`, with `not` ahead of it for an even number.
        filling = " or ".join(["true"] * ((left + 1) // 2))
        text = written.format(filling if left % 2 else f"not {filling}")
        self.assertEqual(self.tokens(text), total)
        for place in ("given {}", "rule r {}", "decide go if {}"):
            error = self.error_of(with_rows(place.format(text)))
            # A given that holds in no world is read all the same.
            self.assertIn(error, (BadProgram,) if total > 300 else (None, NoWorld))

    def error_of(self, text):
        """The class of the error that a text raises; BadProgram must be that of the line behind HEAD."""
        try:
            Program(text)
        except BadProgram as caught:
            self.assertEqual(caught.value, len(HEAD))
            return BadProgram
        except NoWorld:
            return NoWorld
        return None

    def test_each_expression_has_its_own_tokens(self):
        long = " or ".join(["true"] * 150)
        Program(with_rows(f"given {long}", f"given not not true or {long[:-24]}", f"rule r {long}", f"decide go if {long}"))

    def test_blanks_between_tokens(self):
        tokens = ["not", "points", "(", "2", "a", ".", "b", ",", "-1", "m", ".", "x", "and", "a", ".", "n", "<", "-5", ",", "3", "(",
                  "there", "m", ")", "or", "a", ".", "w", "in", "(", "lo", ",", "hi", ")", ")", "=", "4"]
        signs = "().,=<>"
        for at in range(1, len(tokens)):
            apart = tokens[at - 1] not in signs and tokens[at] not in signs
            for blanks in ("", " ", "  ", "\t"):
                text = f"{' '.join(tokens[:at])}{blanks}{' '.join(tokens[at:])}"
                with self.subTest(text):
                    if blanks == " " or blanks == "" and not apart:
                        Program(with_rows(f"rule r {text}"))
                    elif "therem" in text:
                        # This is one word, and so may be the name of a rule.
                        self.assertEqual(raised(Unnamed, Program, with_rows(f"rule r {text}")), len(HEAD))
                    else:
                        self.assertEqual(bad_line(with_rows(f"rule r {text}")), len(HEAD))
        for text in (" a.b", "a.b ", "  a.b", "a.b  ", "\ta.b", "a.b\t", "a.b\r"):
            self.assertEqual(bad_line(with_rows(f"rule r {text}")), len(HEAD))
        tight = "not points(2a.b,-1m.x and a.n<-5)=4"
        self.assertEqual(bad_line(with_rows(f"rule r {tight}")), len(HEAD))
        Program(with_rows("rule r not points(2 a.b,-1 m.x and a.n<-5,3(there m)or a.w in(lo,hi))=4"))


class DepthTest(unittest.TestCase):
    def test_twenty_deep_in_all_mixtures(self):
        forms = {"(": ")", "not ": "", "points(1 ": ")>0", "points(0 true, 1 ": ", 2 false)<1"}
        for one in forms:
            for other in forms:
                for many in range(0, 21, 4):
                    opening = one * many + other * (20 - many)
                    closing = forms[other] * (20 - many) + forms[one] * many
                    with self.subTest(opening):
                        Program(with_rows(f"rule r {opening}a.b{closing}"))
                        Program(with_rows(f"rule r {opening}a.w in (lo, hi){closing}"))
                        for more in forms:
                            for text in (f"{more}{opening}a.b{closing}{forms[more]}", f"{opening}{more}a.b{forms[more]}{closing}"):
                                self.assertEqual(bad_line(with_rows(f"rule r {text}")), len(HEAD))


class SequenceTest(unittest.TestCase):
    """If several errors apply, the one that is listed first."""

    places = " or ".join([f"a.n = {at}" for at in range(1, 50)])
    faults = [
        (BadProgram, ["given (a.b"]), (Doubled, ["rule s true", "rule s true"]), (Unnamed, ["given nowhere"]),
        (RingOfRules, ["rule q not q"]), (TooLarge, [f"rule p {places}"]), (NoWorld, ["given false"]),
    ]

    def lines(self, rows):
        """The lines of a program with these rows, in the sequence in which they may stand."""
        head = ["round 0", "source a price 1", "  n 0..99", "  b yes", "source m price 1 maybe", "  x yes", "  y yes"]
        givens = [row for row in rows if row.startswith("given")]
        rules = [row for row in rows if row.startswith("rule")]
        return [*head, *givens, "rule ra a.b", "rule rb m.x and m.y", *rules, "otherwise go"]

    def value(self, error, lines, rows):
        """What the error keeps by the lines of the program."""
        if error in (BadProgram, Unnamed):
            return lines.index(rows[0])
        if error is Doubled:
            return len(lines) - 1 - lines[::-1].index(rows[1])
        # a has 50 * 2 marks; m has 2 * 2, and is not there once.
        return {RingOfRules: ("q",), TooLarge: 500, NoWorld: None}[error]

    def test_each_alone(self):
        for error, rows in self.faults:
            with self.subTest(error):
                lines = self.lines(rows)
                self.assertEqual(raised(error, Program, "\n".join(lines)), self.value(error, lines, rows))

    def test_two_at_once(self):
        for at, (error, rows) in enumerate(self.faults):
            for other, more in self.faults[at + 1:]:
                with self.subTest((error, other)):
                    lines = self.lines([*rows, *more])
                    self.assertEqual(raised(error, Program, "\n".join(lines)), self.value(error, lines, rows))

    def test_all_at_once(self):
        for at, (error, rows) in enumerate(self.faults):
            lines = self.lines([row for _, more in self.faults[at:] for row in more])
            self.assertEqual(raised(error, Program, "\n".join(lines)), self.value(error, lines, rows))

    def test_a_call_that_fails_changes_nothing(self):
        before = Program(LOAN)
        for _, rows in self.faults:
            text = "\n".join(self.lines(rows))
            with self.assertRaises(ValueError):
                Program(text)
            self.assertTrue(Program(LOAN) == before)
            self.assertEqual(Program(LOAN).names, before.names)


class NumberOfMarksTest(unittest.TestCase):
    def number(self, *sources):
        """The number that TooLarge tells for sources with fields of so many marks, maybe ones with a ? ahead."""
        lines, rules = ["round 0"], []
        for at, source in enumerate(sources):
            name = "abcde"[at]
            lines.append(f"source {name} price 1" + (" maybe" if source[0] == "?" else ""))
            for field, marks in zip("xyzw", [part for part in source if part != "?"]):
                lines.append(f"  {field} 0..99")
                rules.append(" or ".join([f"{name}.{field} = {value}" for value in range(1, marks)] + ["false"]))
        rows = [f"rule r{'abcdefghijkl'[at]} {rule}" for at, rule in enumerate(rules)]
        try:
            return len(Program("\n".join([*lines, *rows, "otherwise go"])).mark_worlds)
        except TooLarge as caught:
            return caught.value

    def test_numbers(self):
        for sources, number in (
            (((20, 20),), 400), (((20,), (20,)), 400), ((("?", 20, 20),), 401), ((("?", 19, 21),), 400), (((3,), (7,), (19,)), 399),
            (((2, 2, 2, 2), (5, 5)), 400), (((2, 2, 2, 2), ("?", 5, 5)), 416), ((("?", 2),) * 5, 243), ((("?", 2, 2), *[("?", 2)] * 4), 405),
            ((("?", 1),) * 5, 32), (((1,),), 1), ((("?", 1, 1, 1, 1),), 2), (((3,),) * 5, 243), (((4,),) * 5, 1024), (((50, 50),), 2500),
            ((("?", 3), (10, 10)), 400), ((("?", 4), (9, 9)), 405),
        ):
            with self.subTest(sources):
                self.assertEqual(self.number(*sources), number)

    def test_loan(self):
        text = LOAN.replace("  open yes", "  open yes\n  part 0..9").replace("otherwise", "decide look if {}\notherwise")
        for many in range(1, 6):
            parts = " or ".join([f"market.part = {at}" for at in range(1, many + 1)])
            # Of all combinations of marks 16 have a work at an age below 14.
            self.assertEqual(len(Program(text.format(parts)).mark_worlds), (60 - 16) * (many + 1))
        parts = " or ".join([f"market.part = {at}" for at in range(1, 7)])
        self.assertEqual(raised(TooLarge, Program, text.format(parts)), 60 * 7)


if __name__ == "__main__":
    unittest.main()
