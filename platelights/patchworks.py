"""Tables that are patchworks or sums of told ones, and what parts other tables from their patchworks."""

from platelights.errors import InvalidTables
from platelights.ratios import ratio
from platelights.sums import fewest_rows, parting_from, row_weights
from platelights.tables import check_table, is_table
from platelights.wholes import first_wrong

_MOST_TABLES = 6


def are_tables(value):
    """Whether a value is a tuple of one to six tables."""
    return type(value) is tuple and len(value) > 0 and first_wrong(value, is_table, _MOST_TABLES) is None


def check_tables(value):
    """Raise an error for what is no tuple of one to six tables."""
    if type(value) is not tuple or len(value) == 0:
        raise InvalidTables(None)
    index = first_wrong(value, is_table, _MOST_TABLES)
    if index is not None:
        raise InvalidTables(index)


def _numbers(table):
    """The sixteen whole numbers of a table."""
    return [number for row in table[0] for number in row]


def patch_of(table):
    """The sixteen whole numbers of a table and the one that they are over, so that weights add up to 1."""
    return [*_numbers(table), table[1]]


def _shares(found, tables, table):
    """The weights of tables in a table, by the weights of their whole numbers in those of the table; None for None."""
    if found is None:
        return None
    weights, below = found
    return tuple([ratio(weight * told[1], below * table[1]) for weight, told in zip(weights, tables)])


def patchwork(tables, table):
    """Weights that add up to 1, by which tables add up to a table; None if it is no patchwork of them."""
    check_tables(tables)
    check_table(table)
    return _shares(row_weights([patch_of(told) for told in tables], patch_of(table)), tables, table)


def sum_weights(tables, table):
    """Weights from 0 on by which tables add up to a table; None if it is no sum of them."""
    check_tables(tables)
    check_table(table)
    return _shares(row_weights([_numbers(told) for told in tables], _numbers(table)), tables, table)


def parting_table(tables, table):
    """Four rows and a number, by which the sums of products of all tables are not less, that of a table is; None."""
    check_tables(tables)
    check_table(table)
    parting = parting_from([patch_of(told) for told in tables], patch_of(table))
    if parting is None:
        return None
    return (tuple([parting[at:at + 4] for at in range(0, 16, 4)]), -parting[16])


def fewest_tables(tables, table):
    """The indexes of the fewest tables, of these the least, of which a table is a patchwork; None."""
    check_tables(tables)
    check_table(table)
    return fewest_rows([patch_of(told) for told in tables], patch_of(table))
