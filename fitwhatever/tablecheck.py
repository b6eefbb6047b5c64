"""The checker of tables: whether one shows that all makings of a stock go together."""

from fitwhatever.chains import nodes_of
from fitwhatever.numbers import ZERO, is_less
from fitwhatever.sums import has_only, sum_minus, sum_plus


def table_holds(gaps, stock, table):
    """Whether a table (order, rows) is good for gaps and a stock."""
    order = table[0]
    rows = table[1]
    if not is_order(order, nodes_of(gaps)) or not all([is_row(row, order) for row in rows]):
        return False
    names = stock.names()
    if not all([has_only(link[2], names) for link in list(gaps) + list(rows)]):
        return False
    if not are_carried(gaps, rows, stock):
        return False
    return all([are_carried(links_through(node, order[k + 1:], rows), rows, stock) for k, node in enumerate(order)])


def is_order(order, nodes):
    """Whether an order has just these unlike nodes, each once."""
    return len(order) == len(nodes) and all([node in order for node in nodes])


def is_row(row, order):
    """Whether a link is of two unlike nodes of the order."""
    return row[0] != row[1] and row[0] in order and row[1] in order


def is_never_below(a, stock):
    """Whether a sum has a least from 0 on over the stock."""
    return not is_less(stock.lowest(a), ZERO)


def is_carried(link, rows, stock):
    """Whether a link is carried by rows."""
    if link[0] == link[1]:
        return is_never_below(link[2], stock)
    # A row like the link carries it: that is seen without a look at the stock.
    if link in rows:
        return True
    for row in rows:
        if row[0] == link[0] and row[1] == link[1] and is_never_below(sum_minus(link[2], row[2]), stock):
            return True
    return False


def are_carried(links, rows, stock):
    """Whether all links are carried by rows."""
    return all([is_carried(link, rows, stock) for link in links])


def links_through(node, others, rows):
    """The links that come of each two rows to the node and on from it, from and to nodes among the others."""
    links = []
    for low, middle, a in rows:
        if middle == node and low in others:
            links.extend([(low, row[1], sum_plus(a, row[2])) for row in rows if row[0] == node and row[1] in others])
    return links
