"""Known tables, with n things for each."""

from nomoretold.errors import BadNumber
from nomoretold.kinds import is_number
from nomoretold.tables import MOST_THINGS

MOST_REST = 12


def richer(n):
    """1 if left's is greater than right's, else 0."""
    return _table_of(n, lambda x, y: 1 if x > y else 0)


def same(n):
    """1 if they are alike, else 0."""
    return _table_of(n, lambda x, y: 1 if x == y else 0)


def greater_one(n):
    """The greater one."""
    return _table_of(n, lambda x, y: max(x, y))


def sums(n, m):
    """The rest of their sum by m."""
    _require_number(m, MOST_REST)
    return _table_of(n, lambda x, y: (x + y) % m)


def first_price(n):
    """Two times the greater one, and 1 more if right's alone is the greater one."""
    return _table_of(n, lambda x, y: 2 * max(x, y) + (1 if y > x else 0))


def second_price(n):
    """Two times the lesser one, and 1 more if right's alone is the greater one."""
    return _table_of(n, lambda x, y: 2 * min(x, y) + (1 if y > x else 0))


def _table_of(n, answer_at):
    """The table of n things for each with the answers that answer_at tells."""
    _require_number(n, MOST_THINGS)
    return tuple([tuple([answer_at(x, y) for y in range(n)]) for x in range(n)])


def _require_number(value, most):
    """Raise BadNumber unless the value is an integer from 1 to most."""
    if not is_number(value, 1, most):
        raise BadNumber("the number is an integer from 1 to " + str(most))
