"""Facts, standings and trees as texts."""

from onlyasked.errors import BadText
from onlyasked.facts import Facts
from onlyasked.spelling import is_word
from onlyasked.wording import answers_in, answers_text, facts_text, known_in, known_text, number_in, pairs_in

MOST_ASKS = 60


def show_facts(facts):
    """The text of facts."""
    return facts_text(facts.pairs)


def show_known(known):
    """The text of a standing."""
    return known_text(known)


def tree_lines(tree, blanks):
    """The lines of a tree, each behind these blanks."""
    if tree[0] == "settled":
        return [f"{blanks}settled {tree[1]}"]
    found = [f"{blanks}ask {' '.join(tree[1])}"]
    for answers, further in tree[2]:
        found.append(f"{blanks}when {answers_text(answers)}")
        found.extend(tree_lines(further, f"{blanks}  "))
    return found


def show_tree(tree):
    """The text of a tree."""
    return "\n".join(tree_lines(tree, ""))


def refuse_no_text(text):
    if not isinstance(text, str):
        raise BadText(0)


def first_line(text):
    """The first line of any value, and whether it is the only one; BadText(0) if it is no text."""
    refuse_no_text(text)
    lines = text.split("\n")
    return (lines[0], len(lines) == 1)


def read_facts(text):
    """The facts that any value is the text of; BadText(line)."""
    line, is_alone = first_line(text)
    pairs = pairs_in(line)
    if pairs is None:
        raise BadText(0)
    if not is_alone:
        raise BadText(1)
    return Facts(pairs)


def read_known(text):
    """The standing that any value is the text of; BadText(line)."""
    line, is_alone = first_line(text)
    known = known_in(line)
    if known is None:
        raise BadText(0)
    if not is_alone:
        raise BadText(1)
    return known


def result_in(word):
    """The outcome, or the number of a row, that a word writes; None if it writes none."""
    return word if is_word(word) else number_in(word)


class TreeReader:
    """Goes through the lines of a tree; BadText(line) at the first one that does not fit."""

    def __init__(self, lines):
        self.lines = lines
        self.at = 0

    def words_here(self, blanks):
        """The words of the next line, [] if it does not stand behind these blanks, or there is none."""
        if self.at == len(self.lines) or not self.lines[self.at].startswith(blanks):
            return []
        return self.lines[self.at][len(blanks):].split(" ")

    def whole(self):
        """The tree that all lines together are."""
        found = self.next_tree("", 0)
        if self.at < len(self.lines):
            raise BadText(self.at)
        return found

    def next_tree(self, blanks, asks):
        """The tree that begins at the next line, behind these blanks and within so many asks."""
        words = self.words_here(blanks)
        if words[:1] == ["ask"]:
            return self.asking(words[1:], blanks, asks + 1)
        result = result_in(words[1]) if len(words) == 2 and words[0] == "settled" else None
        if result is None:
            raise BadText(self.at)
        self.at += 1
        return ("settled", result)

    def asking(self, sources, blanks, asks):
        named = [source for source in sources if is_word(source)]
        if not sources or sources != sorted(set(named)) or asks > MOST_ASKS:
            raise BadText(self.at)
        self.at += 1
        branches = [self.branch(len(sources), blanks, asks)]
        while self.words_here(blanks)[:1] == ["when"]:
            branches.append(self.branch(len(sources), blanks, asks))
        return ("ask", tuple(sources), tuple(branches))

    def branch(self, many, blanks, asks):
        """The branch that begins at the next line, with so many answers."""
        words = self.words_here(blanks)
        answers = answers_in(words[1:]) if words[:1] == ["when"] else None
        if answers is None or len(answers) != many:
            raise BadText(self.at)
        self.at += 1
        return (answers, self.next_tree(f"{blanks}  ", asks))


def read_tree(text):
    """The tree that any value is the text of; BadText(line)."""
    refuse_no_text(text)
    return TreeReader(text.split("\n")).whole()
