"""Full orders: each table's params of a template in a row, the least key first."""

from itertools import permutations

from stuckrows.orderings import all_less


def one_of_each(rows):
    """All lists with one entry of each row, the first entries first."""
    lists = [[]]
    for row in rows:
        lists = [some + [entry] for some in lists for entry in row]
    return lists


def tables_of(params):
    """A dict from the tables of which there are two or more params to lists of these, in their order."""
    tables = {}
    for param, table in params:
        tables.setdefault(table, []).append(param)
    return {table: names for table, names in tables.items() if len(names) > 1}


def rows_of(names, less):
    """All rows of some params in which none is told to be less than one before it."""
    found = []
    for row in permutations(names):
        if not any((later, row[place]) in less for place in range(len(row)) for later in row[place + 1:]):
            found.append(row)
    return found


def full_rows(templates):
    """For each template the list of all that a full order can tell of it."""
    found = []
    for _, params, orders, _ in templates:
        less = all_less(orders)
        rows = [rows_of(names, less) for names in tables_of(params).values()]
        found.append([tuple(some) for some in one_of_each(rows)])
    return found


def told_by(full):
    """The orders, as tuples (template, p, q), that tell all that a full order tells."""
    orders = []
    for index, rows in enumerate(full):
        for row in rows:
            orders.extend([(index, low, high) for low, high in zip(row, row[1:])])
    return orders
