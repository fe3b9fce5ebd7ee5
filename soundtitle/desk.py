"""A desk that leads a book by lines of text."""

from soundtitle.book import Book
from soundtitle.deeds import read_deed, show_deed
from soundtitle.errors import NoCommand, NoText, Nothing, TitleError
from soundtitle.fewest import fewest
from soundtitle.forms import is_name
from soundtitle.healing import least_healing
from soundtitle.looks import looks_needed
from soundtitle.notation import show_case, with_commas
from soundtitle.surely import is_sure, possible


def _possible(book, names):
    return " ".join(possible(book.case(), names[0], book.rule()))


def _sure(book, names):
    plot, name = names
    return "yes" if is_sure(book.case(), plot, book.rule(), name) else "no"


def _fewest(book, names):
    found = fewest(book.case(), names[0], book.rule())
    return ", ".join([f"{name} {found[name]}" for name in found])


def _count(book, _):
    return f"{book.case().count()}"


def _looks(book, names):
    return f"{looks_needed(book.case(), names[0], book.rule())}"


def _healing(book, names):
    plot, name = names
    return "; ".join([with_commas(lot) for lot in least_healing(book.case(), plot, book.rule(), name, [])])


def _case(book, _):
    return show_case(book.case())


def _claims(book, _):
    claims = book.claims()
    if not claims:
        return "-"
    return "; ".join([f"{plot} {name}" for plot, name in claims])


# The questions, each with what answers it, and how many names it asks of.
_ANSWERS = {
    "possible": _possible, "sure": _sure, "fewest": _fewest, "count": _count, "looks": _looks, "healing": _healing,
    "case": _case, "claims": _claims,
}
_NAMES = {
    "possible": 1, "sure": 2, "fewest": 1, "count": 0, "looks": 1, "healing": 2, "case": 0, "claims": 0,
}


class Desk:
    """A book, and what lines make of it."""

    def __init__(self, firsts):
        self._book = Book(firsts)

    def execute(self, line):
        """Does the deed or answers the question of a line, and returns a text."""
        word, *names = line.split(" ")
        if line in ("back", "again"):
            return self._turned(line)
        if word not in _ANSWERS:
            return self._acted(line)
        if len(names) != _NAMES[word] or not all([is_name(name) for name in names]):
            raise NoCommand()
        return self._answered(word, names)

    def book(self):
        """A copy of the book."""
        return self._book.copied()

    def _turned(self, word):
        try:
            deed = self._book.back() if word == "back" else self._book.again()
        except Nothing:
            return "nothing"
        return show_deed(deed)

    def _answered(self, word, names):
        answer = _ANSWERS[word]
        try:
            return answer(self._book, names)
        except TitleError as error:
            return "refused " + type(error).__name__

    def _acted(self, line):
        try:
            deed = read_deed(line)
        except NoText:
            raise NoCommand() from None
        try:
            self._book.do(deed)
        except TitleError as error:
            return "refused " + type(error).__name__
        return "done"
