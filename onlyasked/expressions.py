"""Reading an expression of a program.

An expression is read as nested tuples whose first item tells the form:
("constant", bool), ("rule", NAME), ("there", S), ("yes", "S.F"), ("=", "S.F", N or W), ("<", "S.F", N),
(">", "S.F", N), ("in", "S.F", words), ("points", ((N, expression), ..), sign, N), ("not", expression),
("and", expressions), ("or", expressions).
"""

from onlyasked.errors import BadProgram
from onlyasked.spelling import GREATEST, integer_between, is_name
from onlyasked.tokens import tokens_of

DEEPEST = 20
GREATEST_POINTS = 9


class Parser:
    """Goes through the tokens of one expression; BadProgram(line) where they do not fit."""

    def __init__(self, tokens, line):
        self.tokens = tokens
        self.line = line
        self.at = 0
        self.depth = 0

    def peek(self):
        """The next token, "" behind the last one."""
        return self.tokens[self.at] if self.at < len(self.tokens) else ""

    def take(self):
        """The next token, which is then behind us."""
        token = self.peek()
        self.at += 1
        return token

    def skip(self, token):
        """Whether this token is next; if so, it is then behind us."""
        found = self.peek() == token
        if found:
            self.at += 1
        return found

    def expect(self, token):
        if not self.skip(token):
            raise BadProgram(self.line)

    def deeper(self):
        # Looked at on the way down, so that no text can make the parser itself go too deep.
        self.depth += 1
        if self.depth > DEEPEST:
            raise BadProgram(self.line)

    def take_name(self):
        token = self.take()
        if not is_name(token):
            raise BadProgram(self.line)
        return token

    def take_integer(self, greatest):
        number = integer_between(self.take(), -greatest, greatest)
        if number is None:
            raise BadProgram(self.line)
        return number

    def whole(self):
        """The expression that all tokens together are."""
        tree = self.either()
        if self.at < len(self.tokens):
            raise BadProgram(self.line)
        return tree

    def either(self):
        parts = [self.both()]
        while self.skip("or"):
            parts.append(self.both())
        return parts[0] if len(parts) == 1 else ("or", tuple(parts))

    def both(self):
        parts = [self.negated()]
        while self.skip("and"):
            parts.append(self.negated())
        return parts[0] if len(parts) == 1 else ("and", tuple(parts))

    def negated(self):
        if not self.skip("not"):
            return self.single()
        self.deeper()
        tree = self.negated()
        self.depth -= 1
        return ("not", tree)

    def single(self):
        if self.skip("("):
            return self.take_bracketed()
        if self.skip("true"):
            return ("constant", True)
        if self.skip("false"):
            return ("constant", False)
        if self.skip("there"):
            return ("there", self.take_name())
        if self.skip("points"):
            return self.take_points()
        name = self.take_name()
        if self.skip("."):
            return self.take_place(f"{name}.{self.take_name()}")
        return ("rule", name)

    def take_bracketed(self):
        self.deeper()
        tree = self.either()
        self.expect(")")
        self.depth -= 1
        return tree

    def take_points(self):
        self.expect("(")
        self.deeper()
        weighed = [self.take_weighed()]
        while self.skip(","):
            weighed.append(self.take_weighed())
        self.expect(")")
        self.depth -= 1
        sign = self.take()
        if sign not in ("=", "<", ">"):
            raise BadProgram(self.line)
        return ("points", tuple(weighed), sign, self.take_integer(GREATEST))

    def take_weighed(self):
        many = self.take_integer(GREATEST_POINTS)
        return (many, self.either())

    def take_place(self, name):
        """What stands behind the name of a field, with this name."""
        if self.skip("<"):
            return ("<", name, self.take_integer(GREATEST))
        if self.skip(">"):
            return (">", name, self.take_integer(GREATEST))
        if self.skip("="):
            return ("=", name, self.take_name() if is_name(self.peek()) else self.take_integer(GREATEST))
        if self.skip("in"):
            return ("in", name, self.take_words())
        return ("yes", name)

    def take_words(self):
        self.expect("(")
        words = [self.take_name()]
        while self.skip(","):
            words.append(self.take_name())
        self.expect(")")
        return tuple(words)


def read_expression(text, line):
    """The expression that a text is; BadProgram(line) if it is none."""
    return Parser(tokens_of(text, line), line).whole()
