import unittest

from onlyasked.errors import BadProgram, Doubled, NoWorld, RingOfRules, TooLarge, Unnamed
from onlyasked.programs import Program
from samples import FIVE, HEAD, LOAN, any_values, raised, with_rows

RESERVED = (
    "round source price stay maybe common yes no none given rule decide if otherwise true false there points in not and or"
).split()


def bad_line(text):
    return raised(BadProgram, Program, text)


def nested(opening, many, closing):
    return opening * many + "a.b" + closing * many


class PropertiesTest(unittest.TestCase):
    def test_loan(self):
        loan = Program(LOAN)
        self.assertEqual(loan.text, LOAN)
        self.assertEqual(loan.sources, ("person", "work", "market"))
        names = ("market.open", "person.age", "person.home", "work", "work.fixed", "work.income")
        self.assertEqual(loan.names, names)
        self.assertEqual(loan.outcomes, ("grant", "look", "refuse"))

    def test_outcomes_are_named_once(self):
        program = Program(with_rows("decide stop if a.b", "decide halt if m.x", "decide stop if there m"))
        self.assertEqual(program.outcomes, ("halt", "stop"))

    def test_text_may_be_given_by_name(self):
        self.assertEqual(Program(text=FIVE).text, FIVE)

    def test_programs_are_equal_if_their_texts_are(self):
        self.assertTrue(Program(FIVE) == Program(FIVE))
        self.assertFalse(Program(FIVE) != Program(FIVE))
        self.assertTrue(Program(FIVE) != Program(LOAN))
        self.assertFalse(Program(FIVE) == Program(FIVE.replace("> 4", ">4")))
        for value in [FIVE, *[one for one in any_values() if not isinstance(one, Program)]]:
            self.assertFalse(Program(FIVE) == value)
            self.assertFalse(value == Program(FIVE))

    def test_methods_stand_in_the_class(self):
        self.assertIn("__eq__", vars(Program))
        self.assertEqual(Program.__module__, "onlyasked.programs")


class GoodFormsTest(unittest.TestCase):
    def good(self, *rows):
        text = with_rows(*rows)
        self.assertEqual(Program(text).text, text)

    def test_expressions(self):
        for written in (
            "true", "false", "(true)", "a.b", "a . b", "a. b", "a .b", "not a.b", "not not a.b", "there m", "not there m",
            "a.n = 5", "a.n=5", "a.n =5", "a.n= 5", "a.n < -5", "a.n>-5", "a.n = 1000000", "a.n > -1000000", "a.n = 0",
            "a.w = mid", "a.w=mid", "a.w in (lo)", "a.w in(lo,mid)", "a.w in ( lo , mid )", "a.w in (lo, lo)",
            "a.b or m.x and not a.b", "(a.b or m.x) and a.b", "(a.b)or(m.x)", "not(a.b)",
            "points(2 a.b) > 1", "points ( -9 a.b , 9 m.x ) = -1000000", "points(0 a.b or m.x, 1 not a.b) < 0",
            "points(1(a.b), 2 points(1 a.b) = 1)=1000000", "points(1 a.b)>-5",
        ):
            with self.subTest(written):
                self.good(f"given true or {written}")
                self.good(f"rule r {written}")
                self.good(f"decide go if {written}")

    def test_rules_may_be_named_ahead_of_their_line(self):
        self.good("given r", "rule s not r", "rule r true")

    def test_most_lines(self):
        self.good(*["given true"] * 6, *[f"rule r{chr(97 + k)} a.b" for k in range(12)], *["decide go if a.b"] * 12)

    def test_most_sources_and_fields(self):
        fields = ["  a yes", "  b yes", "  c yes", "  d yes"]
        lines = ["round 9"]
        for name in "abcde":
            lines.extend([f"source {name} price 9", *fields])
        Program("\n".join([*lines, "otherwise a"]))
        self.assertEqual(bad_line("\n".join([*lines, "  e yes", "otherwise a"])), len(lines))
        self.assertEqual(bad_line("\n".join([*lines, "source f price 1", "  a yes", "otherwise a"])), len(lines))

    def test_most_tokens(self):
        self.good("rule r " + " or ".join(["true"] * 150))
        self.good("rule r not " + " or ".join(["true"] * 150))
        self.assertEqual(bad_line(with_rows("rule r not not " + " or ".join(["true"] * 150))), len(HEAD))
        self.assertEqual(bad_line(with_rows("rule r a.b and a.w in (" + ", ".join(["lo"] * 150) + ")")), len(HEAD))

    def test_most_brackets(self):
        for opening, closing in (("(", ")"), ("not ", ""), ("points(1 ", ")>0")):
            self.good("rule r " + nested(opening, 20, closing))
            self.assertEqual(bad_line(with_rows("rule r " + nested(opening, 21, closing))), len(HEAD))
        self.good("rule r " + nested("(not ", 10, ")"))
        self.assertEqual(bad_line(with_rows("rule r (" + nested("(not ", 10, ")") + ")")), len(HEAD))
        self.good("rule r " + "(" * 20 + "a.w in (lo)" + ")" * 20)
        self.good("rule r " + " and ".join([nested("(", 20, ")")] * 6))
        self.good("rule r " + " and ".join(["not a.b"] * 40))
        self.good("rule r " + " and ".join(["points(1 a.b) > 0"] * 25))

    def test_brackets_that_are_closed_do_not_count_for_others(self):
        for closed in ("(a.b)", "not a.b", "points(1 a.b) > 0"):
            for opening, closing in (("(", ")"), ("not ", ""), ("points(1 ", ")>0")):
                with self.subTest((closed, opening)):
                    self.good(f"rule r {closed} and " + nested(opening, 20, closing))
                    text = with_rows(f"rule r {closed} and " + nested(opening, 21, closing))
                    self.assertEqual(bad_line(text), len(HEAD))

    def test_sources_with_each_tail(self):
        for tail in ("", " stay 0", " stay 3", " maybe", " common", " stay 1 maybe", " stay 1 common", " maybe common",
                     " stay 2 maybe common"):
            with self.subTest(tail):
                Program(f"round 0\nsource a price 1{tail}\n  x yes\notherwise go")

    def test_fields(self):
        for tail in ("0..0", "-1000000..1000000", "-5..-1", "yes", "lo hi", "a b c d e f g h", "abcdefghijkl x"):
            with self.subTest(tail):
                Program(f"round 0\nsource a price 1\n  x {tail}\notherwise go")

    def test_names_may_be_alike_elsewhere(self):
        Program("round 0\nsource a price 1\n  a a b\nsource b price 1\n  a b a\nrule go a.a = a\n"
                "decide go if go\ndecide go if b.a = b\notherwise a")


class BadProgramTest(unittest.TestCase):
    def test_example(self):
        self.assertEqual(bad_line("round 1\nsource a price 1\n  x yes\notherwise in"), 3)

    def test_what_is_no_string(self):
        for value in any_values():
            if not isinstance(value, str):
                self.assertEqual(bad_line(value), 0)

    def test_lines_that_end_too_early(self):
        lines = LOAN.split("\n")
        for many in range(1, len(lines)):
            self.assertEqual(bad_line("\n".join(lines[:many])), many)
        self.assertEqual(bad_line(""), 0)

    def test_lines_that_are_left_out(self):
        lines = ["round 1", "source a price 1", "  x yes", "otherwise go"]
        self.assertEqual(bad_line("\n".join(lines[1:])), 0)
        self.assertEqual(bad_line("\n".join([lines[0], *lines[2:]])), 1)
        self.assertEqual(bad_line("\n".join([*lines[:2], lines[3]])), 2)
        self.assertEqual(bad_line("\n".join([lines[0], lines[3]])), 1)

    def test_lines_that_stand_elsewhere(self):
        text = with_rows("given true", "rule r true", "decide go if r")
        lines = text.split("\n")
        first = len(HEAD)
        for one, other in ((first, first + 1), (first + 1, first + 2), (first, first + 2)):
            turned = list(lines)
            turned[one], turned[other] = turned[other], turned[one]
            self.assertEqual(bad_line("\n".join(turned)), one + 1)
        for more in ("round 0", "source b price 1", "  y yes", "given true", "rule s true", "decide go if true",
                     "otherwise go", "", " "):
            self.assertEqual(bad_line(text + "\n" + more), len(lines))
        for more in ("round 0", "source b price 1", "  y yes", "", "start", "field"):
            self.assertEqual(bad_line("\n".join([*lines[:first + 1], more, *lines[first + 1:]])), first + 1)
        self.assertEqual(bad_line(text.replace("source m price 1 maybe\n", "source m price 1\nsource o price 1\n")), 6)

    def test_too_many_lines(self):
        for row, most in (("given true", 6), ("rule {} true", 12), ("decide go if true", 12)):
            rows = [row.format("r" + chr(97 + k)) for k in range(most + 1)]
            self.assertEqual(bad_line(with_rows(*rows)), len(HEAD) + most)

    def test_the_first_line_counts_and_bad_lines_come_first(self):
        text = "round 1\nsource a price 1\n  x yes\n  x yes\ndecide go if b.x\nrule r r\notherwise go"
        self.assertEqual(bad_line(text), 5)
        self.assertEqual(bad_line(text.replace("round 1", "round x")), 0)

    def test_round_lines(self):
        for line in ("round", "round ", "round 10", "round -1", "round 01", "round 1 ", "round  1", " round 1", "Round 1",
                     "round x", "round 1 2", "round -0", "round 1\r", "round\t1", "round \u0661", "round +1"):
            with self.subTest(line):
                self.assertEqual(bad_line(f"{line}\nsource a price 1\n  x yes\notherwise go"), 0)

    def test_source_lines(self):
        for line in ("source", "source a", "source a price", "source a price 0", "source a price 10", "source a price 01",
                     "source a price 1 ", "source a price 1 stay", "source a price 1 stay 4", "source a price 1 stay -1",
                     "source a price 1 stay maybe", "source a price 1 maybe stay 1", "source a price 1 common maybe",
                     "source a price 1 maybe maybe", "source a price 1 stay 1 stay 1", "source a price 1 often",
                     "source a  price 1", "source A price 1", "source a1 price 1", "source abcdefghijklm price 1",
                     "source a cost 1", "source a price x", "source  price 1", "sources a price 1", " source a price 1",
                     "source a price 1 common common", "source a.b price 1"):
            with self.subTest(line):
                self.assertEqual(bad_line(f"round 0\n{line}\n  x yes\notherwise go"), 1)

    def test_field_lines(self):
        for line in (" x yes", " q x yes", "   x yes", "x yes", "  x", "  x ", "  x  yes", "  x yes ", "  x yes no", "  x no",
                     "  x word", "  x 5", "  x 5..4", "  x 0..1000001", "  x -1000001..0", "  x 00..5", "  x 0..05",
                     "  x -0..5", "  x 0..", "  x ..5", "  x 0...5", "  x 0..5..9", "  x 0 .. 5", "  x 0..5 lo",
                     "  x a b c d e f g h i", "  x lo yes", "  x lo HI", "  x lo hi ", "  x lo  hi", "  X yes", "  yes yes",
                     "  x lo abcdefghijklm", "  abcdefghijklm yes", "  x 0.5", "\tx yes", "  x +0..5", "  x.y yes",
                     "  x 0..99999999999999999999", "  x lo in"):
            with self.subTest(line):
                self.assertEqual(bad_line(f"round 0\nsource a price 1\n{line}\notherwise go"), 2)

    def test_very_long_numbers(self):
        self.assertEqual(bad_line("round 0\nsource a price 1\n  x 0.." + "9" * 9000 + "\notherwise go"), 2)
        self.assertEqual(bad_line(with_rows("rule r a.n > " + "9" * 9000)), len(HEAD))
        self.assertEqual(bad_line("round " + "0" * 9000), 0)

    def test_given_rule_decide_and_otherwise_lines(self):
        for line in ("given", "given ", "given  a.b", "given(a.b)", "given a.b ", "givena.b", " given a.b",
                     "rule", "rule r", "rule r ", "rule r  a.b", "rule r(a.b)", "rule R a.b", "rule a.b", "rule  r a.b",
                     "rule rabcdefghijkl a.b", "rule r1 a.b",
                     "decide", "decide go", "decide go if", "decide go if ", "decide go if(a.b)", "decide go if  a.b",
                     "decide go  if a.b", "decide GO if a.b", "decide go a.b", "decide go of a.b", "decide if a.b", "decide goo! if a.b",
                     "otherwise", "otherwise ", "otherwise go ", "otherwise go on", "otherwise GO", "otherwise  go",
                     "otherwise abcdefghijklm"):
            with self.subTest(line):
                self.assertEqual(bad_line(with_rows(line)), len(HEAD))

    def test_names_that_may_not_be(self):
        for word in RESERVED:
            with self.subTest(word):
                self.assertEqual(bad_line(f"round 0\nsource {word} price 1\n  x yes\notherwise go"), 1)
                self.assertEqual(bad_line(f"round 0\nsource a price 1\n  {word} yes\notherwise go"), 2)
                self.assertEqual(bad_line(f"round 0\nsource a price 1\n  x lo {word}\notherwise go"), 2)
                self.assertEqual(bad_line(with_rows(f"rule {word} a.b")), len(HEAD))
                self.assertEqual(bad_line(with_rows(f"decide {word} if a.b")), len(HEAD))
                self.assertEqual(bad_line(with_rows(f"otherwise {word}")), len(HEAD))
                self.assertEqual(bad_line(with_rows(f"given a.{word}")), len(HEAD))
                self.assertEqual(bad_line(with_rows(f"given {word}.x")), len(HEAD))
                self.assertEqual(bad_line(with_rows(f"given a.w = {word}")), len(HEAD))
                self.assertEqual(bad_line(with_rows(f"given a.w in ({word})")), len(HEAD))
                self.assertEqual(bad_line(with_rows(f"given there {word}")), len(HEAD))
                if word not in ("true", "false"):
                    self.assertEqual(bad_line(with_rows(f"given {word}")), len(HEAD))

    def test_expressions(self):
        for written in (
            "", "()", "(a.b", "a.b)", "a.b a.b", "a.b or", "or a.b", "a.b and", "and a.b", "not", "a.b not", "a.",
            ".b", "a..b", "a.b.c", "there", "there m.x", "there not m", "there (m)", "a.n =", "a.n < mid", "a.n > mid",
            "a.n = 1000001", "a.n = -1000001", "a.n = -0", "a.n = 01", "a.n = - 5", "a.n = --5", "a.n = 1.5", "a.n == 1",
            "a.n <= 1", "a.n != 1", "5 < a.n", "a.n < 5 < 6", "a.w in", "a.w in ()", "a.w in lo", "a.w in (lo",
            "a.w in (lo,)", "a.w in (lo mid)", "a.w in (5)", "a.w in ((lo))", "a.n = (5)", "points", "points()", "points(1)",
            "points(1 a.b)", "points(1 a.b) >", "points(1 a.b) > lo", "points(1 a.b) in (lo)", "points(10 a.b) > 1",
            "points(-10 a.b) > 1", "points(1 a.b,) > 1", "points(1 a.b 1 a.b) > 1", "points(a.b) > 1", "points(1a.b) > 1",
            "points(1 a.b) > 1000001", "points(01 a.b) > 1", "points 1 a.b > 1", "points(1 a.b) > - 1", "points(-0 a.b) > 1",
            "(a.b)  or (m.x)", "a.b  or m.x", "a.b or  m.x", "( a.b ) ", " a.b", "a.b ", "notA a.b", "a.b\tor m.x", "a.b;",
            "a.n = +5", "a.abcdefghijklm", "a.b or m,x", "truefalse x", "a.n = 5a", "a.n = five5", "a.b |m.x", "a_b", "A.b",
            "a.n = 5-5", "a.n -5", "true.b", "there.x",
        ):
            with self.subTest(written):
                self.assertEqual(bad_line(with_rows(f"given {written}")), len(HEAD))
                self.assertEqual(bad_line(with_rows(f"rule r {written}")), len(HEAD))
                self.assertEqual(bad_line(with_rows("given true", f"decide go if {written}")), len(HEAD) + 1)


class DoubledTest(unittest.TestCase):
    def line(self, text):
        return raised(Doubled, Program, text)

    def test_sources(self):
        self.assertEqual(self.line("round 0\nsource a price 1\n  x yes\nsource a price 2\n  y yes\notherwise go"), 3)

    def test_fields_and_words(self):
        self.assertEqual(self.line("round 0\nsource a price 1\n  x yes\n  y yes\n  x 0..5\notherwise go"), 4)
        self.assertEqual(self.line("round 0\nsource a price 1\n  x yes\n  y lo hi lo\notherwise go"), 3)

    def test_rules(self):
        self.assertEqual(self.line(with_rows("rule r a.b", "rule s a.b", "rule r m.x")), len(HEAD) + 2)
        self.assertEqual(self.line(with_rows("rule r a.b", "rule m a.b")), len(HEAD) + 1)

    def test_the_first_line_counts(self):
        text = "round 0\nsource a price 1\n  x yes\n  y lo lo\nsource a price 1\n  x yes\nrule a true\notherwise go"
        self.assertEqual(self.line(text), 3)
        self.assertEqual(self.line(text.replace("lo lo", "lo hi")), 4)
        self.assertEqual(self.line(text.replace("lo lo", "lo hi").replace("\nsource a", "\nsource b", 2)
                                   .replace("source b", "source a", 1)), 6)

    def test_doubled_comes_ahead_of_unnamed(self):
        self.assertEqual(self.line(with_rows("given nowhere", "rule r r", "rule r r")), len(HEAD) + 2)


class UnnamedTest(unittest.TestCase):
    def test_each_way(self):
        for written in (
            "o.b", "a.c", "m.b", "r", "a", "m", "there a", "there o", "there s", "a.n", "a.w", "a.b = 1", "a.b < 1",
            "a.b > 1", "a.b = lo", "a.b in (lo)", "a.n = lo", "a.n in (lo)", "a.w = 1", "a.w < 1", "a.w > 1", "a.w = low",
            "a.w in (lo, low)", "s.b", "m.x and o.b", "points(1 true, 2 r) > 1", "not not r",
        ):
            with self.subTest(written):
                for rows, line in (([f"given {written}", "rule s r"], 0), (["rule s true", f"rule t {written}"], 1),
                                   (["rule s true", f"decide go if {written}", "decide go if o.o"], 1)):
                    self.assertEqual(raised(Unnamed, Program, with_rows(*rows)), len(HEAD) + line)

    def test_unnamed_comes_ahead_of_a_ring(self):
        self.assertEqual(raised(Unnamed, Program, with_rows("rule r r", "decide go if s")), len(HEAD) + 1)


class RingOfRulesTest(unittest.TestCase):
    def ring(self, **rules):
        rows = [f"rule {name} " + " or ".join(["false", *named.split()]) for name, named in rules.items()]
        names = raised(RingOfRules, Program, with_rows(*rows))
        self.assertIsInstance(names, tuple)
        self.assertGreater(len(names), 0)
        for one, other in zip(names, [*names[1:], names[0]]):
            self.assertIn(other, rules[one].split())
        return names

    def test_example(self):
        text = "round 0\nsource a price 1\n  x yes\nrule r s\nrule s r\notherwise go"
        self.assertIn(raised(RingOfRules, Program, text), (("r", "s"), ("s", "r")))

    def test_rings(self):
        self.assertEqual(self.ring(r="r"), ("r",))
        self.assertEqual(self.ring(q="", r="s q", s="q s"), ("s",))
        self.assertEqual(sorted(self.ring(q="r", r="s", s="t u", t="", u="r")), ["r", "s", "u"])

    def test_rules_without_a_ring(self):
        Program(with_rows("rule r s or t", "rule s t", "rule t a.b", "rule u r and s and t"))

    def test_a_ring_comes_ahead_of_what_is_too_large(self):
        lines = [f"rule r{'abcdefghij'[k]} a.n = {k}" for k in range(9)]
        self.assertEqual(raised(RingOfRules, Program, with_rows("given false", *lines, "rule r r")), ("r",))


class TooLargeTest(unittest.TestCase):
    def text(self, many, other, *more):
        rule = " or ".join([f"a.n = {k}" for k in range(1, many)])
        second = " or ".join([f"m.n = {k}" for k in range(1, other)])
        return "\n".join(["round 0", "source a price 1", "  n 0..100", "source m price 1 maybe", "  n 0..100", *more,
                          f"rule r {rule}", f"rule s {second}", "otherwise go"])

    def test_just_above(self):
        self.assertEqual(len(Program(self.text(20, 19)).mark_worlds), 400)
        self.assertEqual(raised(TooLarge, Program, self.text(20, 20)), 420)
        self.assertEqual(raised(TooLarge, Program, self.text(21, 19, "given false")), 420)
        self.assertEqual(raised(TooLarge, Program, self.text(40, 40)), 1640)

    def test_one_above(self):
        places = [f"a.n = {k}" for k in range(1, 401)]
        rules = [f"rule r{'abcdefgh'[k]} " + " or ".join(places[k * 50:k * 50 + 50]) for k in range(8)]
        text = "\n".join(["round 0", "source a price 1", "  n 0..1000", *rules, "otherwise go"])
        self.assertEqual(raised(TooLarge, Program, text), 401)
        self.assertEqual(len(Program(text.replace("n 0..1000", "n 1..400")).mark_worlds), 400)

    def test_what_nothing_names_does_not_count(self):
        Program("round 0\nsource a price 1\n  n -1000000..1000000\notherwise go")


class NoWorldTest(unittest.TestCase):
    def test_no_world(self):
        for rows in (["given false"], ["given a.b", "given not a.b"], ["given a.n > 9"], ["given a.n < -5 or a.n = 10"],
                     ["given m.x", "given not there m"], ["given there m", "given r", "rule r not there m"]):
            with self.subTest(rows):
                self.assertIsNone(raised(NoWorld, Program, with_rows(*rows)))

    def test_a_single_world_is_enough(self):
        self.assertEqual(len(Program(with_rows("given a.n > 8", "given not there m")).mark_worlds), 1)


if __name__ == "__main__":
    unittest.main()
