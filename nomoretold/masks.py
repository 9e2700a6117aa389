"""Masks: people find out the sum, by 2, of their bits by dealing coins and telling sums."""

from nomoretold.errors import BadBits, BadCoins, BadLot, BadNumber
from nomoretold.kinds import are_numbers, is_lot, is_number, rows_below

LEAST_PEOPLE = 2
MOST_PEOPLE = 4


def _require_bits(bits):
    """Raise BadBits unless the value is a tuple of a bit for each of 2 to 4 people."""
    if not isinstance(bits, tuple) or not LEAST_PEOPLE <= len(bits) <= MOST_PEOPLE:
        raise BadBits("there are bits of 2 to 4 people")
    if not are_numbers(bits, len(bits), 1):
        raise BadBits("a bit is 0 or 1")


def _require_lot(lot, many):
    """Raise BadLot unless the value is a lot of so many people, which may be empty here."""
    is_empty = isinstance(lot, tuple) and len(lot) == 0
    if not is_empty and not is_lot(lot, many):
        raise BadLot("a lot is an ascending tuple of unlike people")


def _are_coins(value, many):
    """Whether the value is a tuple of a tuple for each person, with a coin for each other one."""
    if not isinstance(value, tuple) or len(value) != many:
        return False
    return all([are_numbers(coins, many - 1, 1) for coins in value])


def masked(bits, coins):
    """The pair of what each gives to each, the own share among it, and the sums told."""
    _require_bits(bits)
    if not _are_coins(coins, len(bits)):
        raise BadCoins("there is a tuple for each person, with a coin, 0 or 1, for each other person")
    return _masked(bits, coins)


def _masked(bits, coins):
    """As masked, unchecked."""
    given = tuple([_given_by(person, bit, own) for person, (bit, own) in enumerate(zip(bits, coins))])
    return (given, tuple([sum(got) % 2 for got in zip(*given)]))


def _given_by(person, bit, coins):
    """What a person gives to each, to itself what it keeps."""
    kept = (bit + sum(coins)) % 2
    return coins[:person] + (kept,) + coins[person:]


def mask_views(bits, lot):
    """What the lot can hold and hear, with the number of rows of coins with which it comes."""
    _require_bits(bits)
    _require_lot(lot, len(bits))
    return _views(bits, lot, _all_coins(len(bits)))


def _all_coins(many):
    """All coins of so many people."""
    coins_of_one = rows_below((2,) * (many - 1))
    coins = [()]
    for _ in range(many):
        coins = [row + (own,) for row in coins for own in coins_of_one]
    return coins


def _views(bits, lot, all_coins):
    """As mask_views, unchecked, over these coins."""
    others = [person for person in range(len(bits)) if person not in lot]
    views = {}
    for coins in all_coins:
        given, sums_told = _masked(bits, coins)
        given_by_lot = tuple([given[person] for person in lot])
        dealt_to_lot = tuple([tuple([given[other][person] for other in others]) for person in lot])
        view = (given_by_lot, dealt_to_lot, sums_told)
        views[view] = views.get(view, 0) + 1
    return views


def masks_tell_no_more(many, lot):
    """Whether bits that are alike in the lot, with like sums by 2, always have like views."""
    if not is_number(many, LEAST_PEOPLE, MOST_PEOPLE):
        raise BadNumber("there are 2 to 4 people")
    _require_lot(lot, many)
    all_coins = _all_coins(many)
    first_views = {}
    for bits in rows_below((2,) * many):
        views = _views(bits, lot, all_coins)
        known = (tuple([bits[person] for person in lot]), sum(bits) % 2)
        if first_views.setdefault(known, views) != views:
            return False
    return True
