"""Texts that write papers, rolls, Cases, rules, lots of words and trees."""


def show_paper(paper):
    if paper[0] == "sale":
        _, seller, buyer, plots, drawn, entered = paper
        return f"sale {seller} {buyer} {with_commas(plots)} {drawn} {_day(entered)}"
    if paper[0] == "loan":
        _, owner, lender, plot, amount, drawn, entered = paper
        return f"loan {owner} {lender} {plot} {amount} {drawn} {_day(entered)}"
    _, lender, number, drawn = paper
    return f"release {lender} {number} {drawn}"


def show_roll(roll):
    firsts, papers = roll
    lines = [f"first {plot} {name}" for plot, name in firsts]
    lines.extend([show_paper(paper) for paper in papers])
    return _with_feeds(lines)


def show_case(case):
    lines = [f"known {number} {word}" for number, word in case.known().items()]
    lines.extend([f"group {with_commas(group)}" for group in case.groups()])
    if case.most() is not None:
        lines.append(f"bound {case.most()}")
    return show_roll(case.roll()) + _with_feeds(lines)


def show_rule(rule):
    prior, forged = rule
    return f"{prior} {forged}"


def show_lot(lot):
    if not lot:
        return "-"
    return ", ".join([f"{head} {word}" for head, word in lot])


def show_tree(tree):
    if tree is None:
        return "none"
    if tree[0] == "knows":
        return f"known {tree[1]}"
    _, head, one, other = tree
    return f"paper {head} ( {show_tree(one)} ) ( {show_tree(other)} )"


def with_commas(some):
    """Names or numbers with commas between, or what stands for none."""
    if not some:
        return "-"
    return ",".join([f"{one}" for one in some])


def _day(entered):
    if entered is None:
        return "never"
    return f"{entered}"


def _with_feeds(lines):
    return "".join([f"{line}\n" for line in lines])
