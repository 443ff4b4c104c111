"""How names and integers are written."""

LETTERS = "abcdefghijklmnopqrstuvwxyz"
DIGITS = "0123456789"
LONGEST_NAME = 12
GREATEST = 1000000
MOST_DIGITS = 7
RESERVED = (
    "round", "source", "price", "stay", "maybe", "common", "yes", "no", "none", "given", "rule", "decide", "if",
    "otherwise", "true", "false", "there", "points", "in", "not", "and", "or",
)


def run_end(text, start, signs):
    """Where the run of these signs that begins at start ends."""
    end = start
    while end < len(text) and text[end] in signs:
        end += 1
    return end


def is_word(text):
    """Whether a string is a word by its letters alone."""
    return 1 <= len(text) <= LONGEST_NAME and run_end(text, 0, LETTERS) == len(text)


def is_name(text):
    """Whether a string may be a name, an outcome or a word of a program."""
    return is_word(text) and text not in RESERVED


def integer_of(text, most):
    """The integer of at most so many digits that a string writes, None if it writes none."""
    digits = text[1:] if text.startswith("-") else text
    # Python's int refuses very long strings, so the length is looked at first.
    if not 1 <= len(digits) <= most or run_end(digits, 0, DIGITS) < len(digits):
        return None
    if digits.startswith("0") and text != "0":
        return None
    return int(text)


def integer_between(text, low, high):
    """The integer of a program that a string writes, None if it writes none from low to high."""
    number = integer_of(text, MOST_DIGITS)
    if number is None or not low <= number <= high:
        return None
    return number
