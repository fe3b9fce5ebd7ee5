"""The parts of one paper: who stands in it, on which days, and what becomes of its names and numbers."""


def persons_of(paper):
    if paper[0] == "release":
        return [paper[1]]
    return [paper[1], paper[2]]


def drawn_on(paper):
    if paper[0] == "release":
        return paper[3]
    return paper[-2]


def entered_on(paper):
    """The day on which a paper is entered, or None if it never is, as a release."""
    if paper[0] == "release":
        return None
    return paper[-1]


def with_persons(paper, table):
    """The paper with the persons that the table, which has all of them, tells."""
    if paper[0] == "release":
        return paper[:1] + (table[paper[1]],) + paper[2:]
    return paper[:1] + (table[paper[1]], table[paper[2]]) + paper[3:]


def led_along(paper, at, step):
    """The paper as it is when the papers with numbers from at on move by a step."""
    if paper[0] != "release" or paper[2] < at:
        return paper
    _, lender, number, drawn = paper
    return ("release", lender, number + step, drawn)
