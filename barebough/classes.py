"""Classes of orders under which the same size lists are kept."""

from barebough.rows import tight, turn_step


def unlike_orders(total):
    """Return a tuple (row, order, count) for each class of alike orders that keep a list."""
    found = {}
    for order, pulled in orders_with_rows(total):
        bounds = tight(pulled)
        if bounds is not None:
            first, count = found.get(tuple(bounds), (order, 0))
            found[tuple(bounds)] = (first, count + 1)
    return sorted([(row, first, count) for row, (first, count) in found.items()])


def order_for(row):
    """Return the alphabetically first order that keeps the lists that fit the row, or None."""
    bounds = tight(row)
    if bounds is None:
        return "K" * (len(row) - 1) + "R"
    for known, order, _ in unlike_orders(len(row)):
        if known == tuple(bounds):
            return order
    return None


def orders_with_rows(total):
    """Return all orders of so many turns in alphabetical order, each with its row."""
    pairs = [("", [])]
    for _ in range(total):
        pairs = [(letter + order, turn_step(letter, row)) for letter in ("K", "R") for order, row in pairs]
    return pairs
