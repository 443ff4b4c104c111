"""The asks of a round, and what becomes of them."""

from onlyasked.sources import part_named


def asks_of_round(program, wishes):
    """Pairs (Source object, subject) for all asks of a round.

    wishes are pairs (subject, sources); a common source that several want is asked once, for the first of them.
    """
    found = []
    commons = {}
    for subject, sources in wishes:
        for source in sources:
            part = part_named(program, source)
            if source not in commons:
                found.append((part, subject))
            if part.common:
                commons[source] = True
    return found


def words_of_round(many, troubles):
    """What becomes of so many asks: behind the end of troubles all are ok, behind a crash none is made."""
    found = []
    for at in range(many):
        word = troubles[at] if at < len(troubles) else "ok"
        found.append("none" if "crash" in found else word)
    return found


def is_made(word):
    """Whether an ask is made and paid."""
    return word not in ("down", "none")


def comes_now(word, words):
    """Whether the answer of an ask comes in its own round, which has these words."""
    return word in ("ok", "twice") and "crash" not in words


def comes_later(word, words):
    """Whether the answer of an ask is on its way behind its round; a crash lets only what is late be on its way."""
    return word == "late" or word == "twice" and "crash" not in words


def known_by(part, subject):
    """By which subject alone an answer for it is known, None if its source is common."""
    return None if part.common else subject
