"""The tokens of an expression."""

from onlyasked.errors import BadProgram
from onlyasked.spelling import DIGITS, LETTERS, run_end

SIGNS = ("=", "<", ">", "(", ")", ",", ".")
MOST_TOKENS = 300


def token_end(text, start):
    """Where the token that begins at start ends; start itself if none begins there."""
    first = text[start:start + 1]
    if first in SIGNS:
        return start + 1
    end = run_end(text, start, LETTERS)
    if end > start:
        return end
    digits = start + 1 if first == "-" else start
    end = run_end(text, digits, DIGITS)
    return end if end > digits else start


def tokens_of(text, line):
    """The tokens of an expression; BadProgram(line) if they are no tokens, none or too many."""
    found = []
    end = 0
    while end < len(text):
        apart = found != [] and text[end] == " "
        start = end + 1 if apart else end
        end = token_end(text, start)
        token = text[start:end]
        if token == "":
            raise BadProgram(line)
        if found and not apart and token not in SIGNS and found[-1] not in SIGNS:
            raise BadProgram(line)
        found.append(token)
    if not 1 <= len(found) <= MOST_TOKENS:
        raise BadProgram(line)
    return found
