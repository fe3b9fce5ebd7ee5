"""What texts write: each reader takes just those that soundtitle.notation shows.

A reader makes out what a text would write if it were one, holds that against its description, and then its text, as it
is shown, against the text that was read. So needless zeros, two blanks and the like are found without being looked for.
"""

from soundtitle.cases import Case
from soundtitle.errors import NoText, Wrong
from soundtitle.forms import is_integer, is_name, is_paper, is_roll, is_rule, is_truth, is_word
from soundtitle.notation import show_case, show_lot, show_paper, show_roll, show_tree

# How many words the lines have that write no papers.
_SIZES = {"first": 3, "known": 3, "group": 2, "bound": 2}


def read_paper(text):
    paper = _paper_of(text.split(" "))
    if not is_paper(paper) or show_paper(paper) != text:
        raise NoText()
    return paper


def read_roll(text):
    roll = _roll_of(_rows(text))
    if not is_roll(roll) or show_roll(roll) != text:
        raise NoText()
    return roll


def read_case(text):
    rows = _rows(text)
    known = {integer_in(row[1]): row[2] for row in rows if row[0] == "known"}
    groups = tuple([integers_in(row[1]) for row in rows if row[0] == "group"])
    bounds = [integer_in(row[1]) for row in rows if row[0] == "bound"]
    roll = _roll_of([row for row in rows if row[0] not in ("known", "group", "bound")])
    try:
        case = Case(roll, known, groups, bounds[0] if bounds else None)
    except Wrong:
        raise NoText() from None
    if show_case(case) != text:
        raise NoText()
    return case


def read_rule(text):
    # Parted at each blank, a text is nothing but its words.
    rule = tuple(text.split(" "))
    if not is_rule(rule):
        raise NoText()
    return rule


def read_lot(text):
    if text == "-":
        return ()
    rows = [part.split(" ") for part in text.split(", ")]
    if not all([len(row) == 2 and is_word(row[1]) for row in rows]):
        raise NoText()
    lot = tuple([(integer_in(row[0]), row[1]) for row in rows])
    # The heads of a lot have the form of a truth.
    if not is_truth(tuple([head for head, _ in lot])) or show_lot(lot) != text:
        raise NoText()
    return lot


def read_tree(text):
    tree = _tree_of(text.split(" "))
    if not _is_tree(tree) or show_tree(tree) != text:
        raise NoText()
    return tree


def integer_in(word):
    """The integer that a word writes in digits, or the word itself."""
    if word == "" or not all(["0" <= sign <= "9" for sign in word]):
        return word
    return int(word)


def integers_in(word):
    """The tuple of what stands between the commas of a word."""
    return tuple([integer_in(part) for part in word.split(",")])


def _rows(text):
    """The list of the lists of the words of each line."""
    rows = [line.split(" ") for line in text.split("\n")]
    # Behind the last line feed nothing stands.
    if rows.pop() != [""] or not all([len(row) == _SIZES.get(row[0], len(row)) for row in rows]):
        raise NoText()
    return rows


def _roll_of(rows):
    firsts = [(row[1], row[2]) for row in rows if row[0] == "first"]
    return (tuple(firsts), tuple([_paper_of(row) for row in rows if row[0] != "first"]))


def _paper_of(words):
    """The paper that some words would write, or None."""
    if words[0] == "sale" and len(words) == 6:
        _, seller, buyer, plots, drawn, entered = words
        return ("sale", seller, buyer, tuple(plots.split(",")), integer_in(drawn), _day_in(entered))
    if words[0] == "loan" and len(words) == 7:
        _, owner, lender, plot, amount, drawn, entered = words
        return ("loan", owner, lender, plot, integer_in(amount), integer_in(drawn), _day_in(entered))
    if words[0] == "release" and len(words) == 4:
        _, lender, number, drawn = words
        return ("release", lender, integer_in(number), integer_in(drawn))
    return None


def _day_in(word):
    if word == "never":
        return None
    return integer_in(word)


def _tree_of(words):
    """The tree that some words would write, or what is none; they are read from the last one on."""
    parts = []
    for word in words[::-1]:
        if word == "known" and parts:
            parts.append(("knows", parts.pop()))
        elif word == "paper" and len(parts) >= 7:
            _, other, _, _, one, _, head = parts[-7:]
            del parts[-7:]
            parts.append(("look", head, one, other))
        elif word == "none":
            parts.append(None)
        else:
            parts.append(integer_in(word))
    return parts[0] if len(parts) == 1 else None


def _is_tree(thing):
    """Whether what was made out of words is a tree."""
    if not isinstance(thing, tuple):
        return False
    if thing[0] == "knows":
        return is_name(thing[1])
    _, head, one, other = thing
    return is_integer(head) and _is_tree(one) and (other is None or _is_tree(other))
