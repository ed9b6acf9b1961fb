"""Ends that lead: which chosen ends of a book have numbers that may be any ones and make all others."""

from lagworks.books import width_of
from lagworks.forms import told_rows
from lagworks.rows import head
from lagworks.sheets import run_out
from lagworks.tables import check_ends


def others_of(book, chosen):
    """The ends that are not chosen, rising."""
    return [end for end in range(width_of(book)) if end not in chosen]


def rules_by(book, chosen):
    """Equations by their heads in told form where the chosen ends stand ahead of all others."""
    order = list(chosen) + others_of(book, chosen)
    rows = told_rows([tuple([row[end] for end in order]) for row in book.equations()], book.prime())
    back = [order.index(end) for end in range(len(order))]
    return {order[head(row)]: tuple([row[place] for place in back]) for row in rows}


def loose_sheet(book, rules, end):
    """The let sheet, all 0 but for its last sign, in which the end, that is free, has a 1."""
    wished = [[0] * width_of(book) for place in range(max([0] + book.heights()) + 1)]
    wished[-1][end] = 1
    return run_out(rules, wished, book.prime())


def led(book, chosen):
    """(word, what shows it): whether the chosen ends are bound, leave others loose, or lead them."""
    check_ends(chosen, width_of(book))
    rules = rules_by(book, chosen)
    # A head is the last end of the greatest degree: it is chosen just where none of the others has that degree.
    bound = [end for end in rules if end in chosen]
    if bound:
        return "bound", rules[bound[0]]
    others = others_of(book, chosen)
    loose = [end for end in others if end not in rules]
    if loose:
        return "loose", loose_sheet(book, rules, loose[0])
    return "led", [rules[end] for end in others]


def rising_lists(many, length):
    """All rising lists of so many ends below many, rising as lists."""
    found = [[]]
    for turn in range(length):
        found = [ends + [end] for ends in found for end in range(many) if not ends or end > ends[-1]]
    return found


def leads(book):
    """All lists of chosen ends that lead, rising as lists."""
    found = []
    for chosen in rising_lists(width_of(book), book.free()):
        word, shown = led(book, chosen)
        if word == "led":
            found.append(chosen)
    return found
