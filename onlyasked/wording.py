"""How values, answers and facts are written as words, and read back.

What reads words returns None if they are not so written; where None may be read, too, it returns a list with what was
read, [] if there is nothing.
"""

from onlyasked.spelling import integer_of, is_word
from onlyasked.standings import LONGEST_LIFE, Known

MOST_DIGITS = 12
NONE = "-"
FOR_EVER = "ever"


def or_none(words, between):
    """Words joined so, or the sign for none of them."""
    return between.join(words) if words else NONE


def value_text(value):
    if isinstance(value, bool):
        return "yes" if value else "no"
    return str(value)


def answer_text(answer):
    return "none" if answer is None else " ".join([value_text(value) for value in answer])


def answers_text(answers):
    return " / ".join([answer_text(answer) for answer in answers])


def life_text(life):
    return FOR_EVER if life is None else str(life)


def facts_text(pairs):
    return or_none([f"{name} {value_text(value)}" for name, value in pairs], "; ")


def known_text(known):
    lines = [f"{name} {value_text(value)} for {life_text(life)}" for name, value, life in known.lines]
    return or_none(lines, "; ")


def number_in(word):
    """The integer from 0 that a word writes."""
    number = integer_of(word, MOST_DIGITS)
    return None if number is None or number < 0 else number


def value_in(word):
    """The value that a word writes by its form."""
    if word in ("yes", "no"):
        return word == "yes"
    return word if is_word(word) else integer_of(word, MOST_DIGITS)


def answer_in(words):
    """A list with the answer that some words write by their form."""
    if words == ["none"]:
        return [None]
    values = [value_in(word) for word in words]
    return [] if not values or None in values else [tuple(values)]


def answers_in(words):
    """The tuple of answers, one or more, that some words write by their form, with a stroke between two answers."""
    parts = [[]]
    for word in words:
        if word == "/":
            parts.append([])
        else:
            parts[-1].append(word)
    found = [answer_in(part) for part in parts]
    return None if [] in found else tuple([one[0] for one in found])


def is_fact_name(word):
    """Whether a word is the name of a fact by its form."""
    parts = word.split(".")
    return len(parts) <= 2 and all([is_word(part) for part in parts])


def lives_in(word):
    """A list with the life that a word writes."""
    if word == FOR_EVER:
        return [None]
    life = number_in(word)
    return [] if life is None or life > LONGEST_LIFE else [life]


def pair_in(words):
    """The pair of a name and a value that two words write."""
    if len(words) != 2 or not is_fact_name(words[0]):
        return None
    value = value_in(words[1])
    return None if value is None else (words[0], value)


def line_in(words):
    """The line of a standing that four words write."""
    if len(words) != 4 or words[2] != "for":
        return None
    pair = pair_in(words[:2])
    lives = lives_in(words[3])
    return None if pair is None or not lives else (*pair, lives[0])


def parts_in(text):
    """The words of each fact of a text."""
    return [] if text == NONE else [part.split(" ") for part in text.split("; ")]


def ascending_tuple(found):
    """A tuple of what was read, which begins with names; None if something was not, or the names do not ascend."""
    if None in found:
        return None
    names = [one[0] for one in found]
    return tuple(found) if names == sorted(set(names)) else None


def pairs_in(text):
    """The pairs of the facts that a line writes."""
    return ascending_tuple([pair_in(words) for words in parts_in(text)])


def known_in(text):
    """The standing that a line writes."""
    lines = ascending_tuple([line_in(words) for words in parts_in(text)])
    return None if lines is None else Known(lines)
