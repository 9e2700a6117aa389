"""Sheets: what many people reckon by shares, each with things of its own."""

from nomoretold.errors import BadCoins, BadNumber, BadSheet, BadThings, TooFew, TooMany
from nomoretold.kinds import are_numbers, is_number, multiplied, rows_below
from nomoretold.shares import require_lot, require_many, require_prime, shares_of, weights_at_zero

MOST_ROWS = 8
MOST_NUMBER = 12
MOST_SIZE = 2
MOST_COINS_SEARCHED = 20000


def _require_sheet(many, sheet):
    """Raise BadSheet unless the value is a sheet for so many people."""
    if not isinstance(sheet, tuple) or not 1 <= len(sheet) <= MOST_ROWS:
        raise BadSheet(None)
    for index, row in enumerate(sheet):
        if not _is_row(many, index, row):
            raise BadSheet(index)


def _is_row(many, index, value):
    """Whether the value can be the row with this index in a sheet for so many people."""
    if not isinstance(value, tuple) or len(value) == 0:
        return False
    if value[0] == "own":
        return are_numbers(value[1:], 1, many - 1)
    if value[0] == "number":
        return are_numbers(value[1:], 1, MOST_NUMBER)
    return value[0] in ("sum", "times") and are_numbers(value[1:], 2, index - 1)


def _require_size(size):
    """Raise BadNumber unless the value is a number of coins with which a thing is dealt."""
    if not is_number(size, 1, MOST_SIZE):
        raise BadNumber("there are 1 or 2 coins")


def _require_things(p, many, things):
    """Raise BadThings unless the value is a tuple of a number for each person."""
    if not are_numbers(things, many, p - 1):
        raise BadThings("there is a number, below the prime, for each person")


def _require_enough(many, size, sheet):
    """Raise TooFew if the shares of so many people would not tell the answer."""
    # The polynomial of a product has two times the degree until it is dealt anew.
    degree = 2 * size if any([row[0] == "times" for row in sheet]) else size
    if degree >= many:
        raise TooFew("there must be more people for so many coins")


def sheet_value(p, many, sheet, things):
    """The number, by p, of the sheet's last row."""
    require_prime(p)
    require_many(many)
    _require_sheet(many, sheet)
    _require_things(p, many, things)
    numbers = []
    for row in sheet:
        numbers.append(_number_of(row, numbers, things) % p)
    return numbers[-1]


def _number_of(row, numbers, things):
    """The number of a row, by those of the rows ahead."""
    if row[0] == "own":
        return things[row[1]]
    if row[0] == "number":
        return row[1]
    one, other = numbers[row[1]], numbers[row[2]]
    return one + other if row[0] == "sum" else one * other


def count_coins(many, size, sheet):
    """How many coins are used in all."""
    require_many(many)
    _require_size(size)
    _require_sheet(many, sheet)
    _require_enough(many, size, sheet)
    return _coins_used(many, size, sheet)


def _coins_used(many, size, sheet):
    """As count_coins, unchecked."""
    kinds = [row[0] for row in sheet]
    return size * kinds.count("own") + many * size * kinds.count("times")


def by_shares(p, many, size, sheet, things, coins):
    """The pair of the answer and of what is dealt, for each row at which is dealt, by each who deals."""
    _require_work(p, many, size, sheet, things)
    if not are_numbers(coins, _coins_used(many, size, sheet), p - 1):
        raise BadCoins("there are as many coins as are used, each below the prime")
    _require_enough(many, size, sheet)
    weights = weights_at_zero(p, list(range(1, many + 1)))
    deals, shares = _worked(p, weights, size, sheet, things, coins)
    return (_weighed(p, weights, shares), deals)


def _require_work(p, many, size, sheet, things):
    """Raise the errors of what by_shares and share_views are given alike."""
    require_prime(p)
    require_many(many)
    _require_size(size)
    _require_sheet(many, sheet)
    _require_things(p, many, things)


def _worked(p, weights, size, sheet, things, coins):
    """The pair of what is dealt, as in by_shares, and of the shares of the last row.

    There is a weight for each person.
    """
    used = 0
    deals = []
    shares = []
    for row in sheet:
        secrets = _secrets_of(row, shares, things)
        dealt_now = []
        for secret in secrets:
            dealt_now.append(shares_of(p, len(weights), secret % p, coins[used:used + size]))
            used += size
        if secrets:
            deals.append(tuple(dealt_now))
        shares.append(_shares_of_row(p, weights, row, shares, dealt_now))
    return (tuple(deals), shares[-1])


def _secrets_of(row, shares, things):
    """What is dealt at a row, by each who deals; nothing at a number or a sum."""
    if row[0] == "own":
        return [things[row[1]]]
    if row[0] == "times":
        return [one * other for one, other in zip(shares[row[1]], shares[row[2]])]
    return []


def _shares_of_row(p, weights, row, shares, dealt_now):
    """The shares of a row, by those of the rows ahead and what is dealt at the row."""
    if row[0] == "own":
        return dealt_now[0]
    if row[0] == "number":
        return (row[1] % p,) * len(weights)
    if row[0] == "sum":
        return tuple([(one + other) % p for one, other in zip(shares[row[1]], shares[row[2]])])
    return tuple([_weighed(p, weights, got) for got in zip(*dealt_now)])


def _weighed(p, weights, values):
    """The sum, by p, of the values, each by its weight."""
    return sum([weight * value for weight, value in zip(weights, values)]) % p


def share_views(p, many, size, sheet, things, lot):
    """What the lot can see, with the number of rows of coins with which it comes."""
    _require_work(p, many, size, sheet, things)
    require_lot(lot, many)
    _require_enough(many, size, sheet)
    used = _coins_used(many, size, sheet)
    if multiplied([p] * used) > MOST_COINS_SEARCHED:
        raise TooMany(MOST_COINS_SEARCHED)
    weights = weights_at_zero(p, list(range(1, many + 1)))
    views = {}
    for coins in rows_below((p,) * used):
        deals, shares = _worked(p, weights, size, sheet, things, coins)
        view = (_seen_by(sheet, deals, lot), shares)
        views[view] = views.get(view, 0) + 1
    return views


def _seen_by(sheet, deals, lot):
    """What is dealt, but None for what a person who isn't of the lot deals to one who isn't, itself too."""
    dealing = [row for row in sheet if row[0] in ("own", "times")]
    found = []
    for row, dealt_now in zip(dealing, deals):
        dealers = [row[1]] if row[0] == "own" else list(range(len(dealt_now)))
        found.append(tuple([_given_seen(dealer, given, lot) for dealer, given in zip(dealers, dealt_now)]))
    return tuple(found)


def _given_seen(dealer, given, lot):
    """What one dealt to each, but None for what the lot does not see of it."""
    if dealer in lot:
        return given
    return tuple([share if person in lot else None for person, share in enumerate(given)])
