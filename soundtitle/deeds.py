"""Deeds, which make a Book: which things are deeds by their form, and the lines that write them."""

from soundtitle.errors import NoText
from soundtitle.forms import is_integer, is_name, is_paper, is_rule, is_truth, is_word
from soundtitle.notation import show_paper, show_rule, with_commas
from soundtitle.readers import integer_in, integers_in, read_paper, read_rule


def is_deed(thing):
    """Whether a thing, any value, is a deed by its form."""
    if not isinstance(thing, tuple) or len(thing) not in (2, 3):
        return False
    if len(thing) == 2:
        return _is_deed_of_one(thing[0], thing[1])
    word, one, other = thing
    if word == "paper":
        return is_integer(one) and is_paper(other)
    if word == "found":
        return is_integer(one) and is_word(other)
    return word == "claim" and is_name(one) and is_name(other)


def show_deed(deed):
    """The line that writes a deed."""
    word = deed[0]
    if word == "paper":
        return f"paper {deed[1]} {show_paper(deed[2])}"
    if word == "group":
        return f"group {with_commas(deed[1])}"
    if word == "rule":
        return f"rule {show_rule(deed[1])}"
    return " ".join(["none" if part is None else f"{part}" for part in deed])


def read_deed(line):
    """The deed that a line writes."""
    deed = _deed_of(line)
    if not is_deed(deed) or show_deed(deed) != line:
        raise NoText()
    return deed


def _is_deed_of_one(word, part):
    if word == "group":
        return is_truth(part) and len(part) >= 2
    if word == "bound":
        return part is None or (is_integer(part) and part >= 0)
    if word == "rule":
        return is_rule(part)
    return word == "free" and is_integer(part)


def _deed_of(line):
    """The deed that a line would write, or what is none."""
    word, _, rest = line.partition(" ")
    if word == "paper":
        at, _, text = rest.partition(" ")
        return (word, integer_in(at), read_paper(text))
    if word == "group":
        return (word, integers_in(rest))
    if word == "bound":
        return (word, None if rest == "none" else integer_in(rest))
    if word == "rule":
        return (word, read_rule(rest))
    return (word,) + tuple([integer_in(part) for part in rest.split(" ")])
