"""What becomes of the money for which a plot is sold: the loans that stand are paid, and the holder gets the rest."""

from soundtitle.loans import ends, ranks


def paid(roll, rule, end, amount):
    """The dict from the names that get something to what each gets, end being a tuple (name, loans)."""
    name, loans = end
    found = {}
    for number in ranks(roll, rule, loans):
        _, _, lender, _, owed, _, _ = roll[1][number]
        part = min(owed, amount)
        found[lender] = found.get(lender, 0) + part
        amount = amount - part
    found[name] = found.get(name, 0) + amount
    return {one: found[one] for one in sorted(found) if found[one] > 0}


def least_paid(case, plot, rule, amount):
    """The dict from the names that get something in some truth to the least that each gets in one."""
    tables = _tables(case, plot, rule, amount)
    return {name: min([table.get(name, 0) for table in tables]) for name in _names(tables)}


def most_paid(case, plot, rule, amount):
    """The dict from the names that get something in some truth to the most that each gets in one."""
    tables = _tables(case, plot, rule, amount)
    return {name: max([table.get(name, 0) for table in tables]) for name in _names(tables)}


def together(case, plot, rule, amount, some):
    """The tuple of the least and the most that some names get together in a truth."""
    names = sorted(set(some))
    sums = [sum([table.get(name, 0) for name in names]) for table in _tables(case, plot, rule, amount)]
    return (min(sums), max(sums))


def _tables(case, plot, rule, amount):
    """The list of what is paid in the truths of the Case."""
    return [paid(case.roll(), rule, end, amount) for end in ends(case, plot, rule)]


def _names(tables):
    return sorted(set([name for table in tables for name in table]))
