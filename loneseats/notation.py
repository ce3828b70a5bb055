"""Texts: how stretches, rules, worths, plans, sales, plays, forms and pictures are written."""

from loneseats.kinds import ENDS


def show_list(numbers):
    """Numbers joined by commas, or a sign for none."""
    return ",".join([str(number) for number in numbers]) if numbers else "-"


def show_words(words):
    """Words with one blank between each two, or a sign for none."""
    return " ".join(words) if words else "-"


def show_stretch(stretch):
    """The text of a stretch."""
    left, length, right = stretch
    return f"{left}.{length}.{right}"


def show_rule(rule):
    """The text of a rule."""
    bad = " ".join([f"{end} {show_list(rule.bad_at(end))}" for end in ENDS])
    how = "soft" if rule.soft else "strict"
    return f"sizes {show_list(rule.sizes)} {bad} {how} {rule.where} {rule.offer}"


def show_worth(worth):
    """The text of a worth."""
    prices = ",".join([f"{size}:{price}" for size, price in worth.prices().items()])
    shown = prices if prices else "-"
    return f"prices {shown} free {worth.free} until {worth.until}"


def show_plan(plan):
    """The text of a plan, a line for each row."""
    return "".join([f"{show_list(row)}\n" for row in plan.rows()])


def show_sale(sale):
    """The text of a sale."""
    row, seat, size = sale
    return f"{row}.{seat}.{size}"


def show_play(play):
    """The text of a list of sales."""
    return show_words([show_sale(sale) for sale in play])


def show_form(told):
    """The text of a form."""
    start, period, rise, values = told
    return f"start {start} period {period} rise {rise} values {show_list(values)}"


def _show_row(row, sold):
    """The line of a row, sold being the tuples (seat, size) of the sales in it."""
    signs = ["."] * sum(row)
    for first, size in sold:
        for seat in range(first, first + size):
            signs[seat] = str(size)
    shown = []
    first = 0
    for length in row:
        shown.append("".join(signs[first:first + length]))
        first += length
    return "|" + ":".join(shown) + "|\n"


def show_picture(plan, play):
    """The picture of a plan behind a play, a line for each row."""
    return "".join([_show_row(row, [(seat, size) for other, seat, size in play if other == at])
                    for at, row in enumerate(plan.rows())])
