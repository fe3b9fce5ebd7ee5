"""The errors of the package: each keeps what it was made with, the objects themselves."""


class TitleError(ValueError):
    """What all errors of the package have in common; it is never raised itself."""


class Wrong(TitleError):
    """An argument of a checked call is not as described."""

    def __init__(self, place):
        self.place = place


class NoPlot(TitleError):
    """There is no such plot."""

    def __init__(self, plot):
        self.plot = plot


class NoPaper(TitleError):
    """There is no such paper, or no such place for one."""

    def __init__(self, number):
        self.number = number


class NoSale(TitleError):
    """There is no such sale of the plot."""

    def __init__(self, number):
        self.number = number


class Needed(TitleError):
    """The paper is a loan that another paper releases."""

    def __init__(self, number, other):
        self.number = number
        self.other = other


class Clash(TitleError):
    """Two persons would have the same name."""

    def __init__(self, name):
        self.name = name


class NoTruth(TitleError):
    """There is no such truth."""

    def __init__(self, truth):
        self.truth = truth


class NoWord(TitleError):
    """There is no such word."""

    def __init__(self, word):
        self.word = word


class Known(TitleError):
    """The paper is known already."""

    def __init__(self, number):
        self.number = number


class Bound(TitleError):
    """More doubts would be void than the bound lets."""

    def __init__(self):
        pass


class NoPlace(TitleError):
    """There is no such place."""

    def __init__(self, place):
        self.place = place


class NoNode(TitleError):
    """There is no such node at the place."""

    def __init__(self, node):
        self.node = node


class NoHead(TitleError):
    """There is no doubt with such a head."""

    def __init__(self, head):
        self.head = head


class Unlikely(TitleError):
    """No truth of the case is likely at all."""

    def __init__(self):
        pass


class Unlike(TitleError):
    """Two lots tell a doubt unlike."""

    def __init__(self, head):
        self.head = head


class NoText(TitleError):
    """The text writes nothing of this kind."""

    def __init__(self):
        pass


class NoDeed(TitleError):
    """There is no deed of such a form."""

    def __init__(self):
        pass


class NoGroup(TitleError):
    """The papers cannot make a group."""

    def __init__(self, numbers):
        self.numbers = numbers


class NoClaim(TitleError):
    """There is no such claim."""

    def __init__(self, number):
        self.number = number


class Broken(TitleError):
    """A claim would not hold in some truth."""

    def __init__(self, number, truth):
        self.number = number
        self.truth = truth


class Nothing(TitleError):
    """There is no deed to be taken back, or done once more."""

    def __init__(self):
        pass


class Stopped(TitleError):
    """A deed of a trial was refused."""

    def __init__(self, index):
        self.index = index


class NoCommand(TitleError):
    """The line is no command."""

    def __init__(self):
        pass
