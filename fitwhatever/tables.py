"""Tables: papers that show that all makings of a stock go together."""

from fitwhatever.chains import nodes_of
from fitwhatever.tablecheck import is_carried, links_through


def table_of(gaps, stock):
    """A good table (order, rows) for gaps and a stock; None where there is none."""
    rows = []
    if not put_links(gaps, rows, stock):
        return None
    order = []
    others = nodes_of(gaps)
    while others:
        node = lightest(others, rows)
        others.remove(node)
        order.append(node)
        if not put_links(links_through(node, others, rows), rows, stock):
            return None
    return (tuple(order), tuple(rows))


def put_links(links, rows, stock):
    """Put each link that isn't carried to the rows; whether this can be done, as it can't of a link of one node."""
    for link in links:
        if not is_carried(link, rows, stock):
            if link[0] == link[1]:
                return False
            rows.append(link)
    return True


def lightest(nodes, rows):
    """The node through which the fewest links go, so that the table stays small."""
    return min(nodes, key=lambda node: links_many(node, nodes, rows))


def links_many(node, nodes, rows):
    """How many links go through a node, from and to these nodes."""
    came = [row for row in rows if row[1] == node and row[0] in nodes]
    gone = [row for row in rows if row[0] == node and row[1] in nodes]
    return len(came) * len(gone)
