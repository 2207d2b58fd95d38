"""Remedies: which changes of templates keep instances from being stuck, and what they cost."""

from stuckrows.bounds import AnyRing
from stuckrows.changing import WORDS, all_changes, require_changes, with_some
from stuckrows.choices import Choices, EntryReader, Evidence, part_of
from stuckrows.errors import InvalidNumber, InvalidPrices
from stuckrows.finder import Finder, find_ring
from stuckrows.templates import check_ring_system, check_system, require_rings
from stuckrows.words import is_index, is_integer

MOST_CHANGES = 3
GREATEST_PRICE = 1000


def changes(system):
    """The ascending list of all changes of the system."""
    check_ring_system(system)
    return all_changes(system)


def with_changes(system, some):
    """The system behind some changes."""
    check_ring_system(system)
    return with_some(system, require_changes(system, some))


def check_prices(prices):
    """Raises InvalidPrices if a value is no prices."""
    if not isinstance(prices, dict):
        raise InvalidPrices(None)
    for word in WORDS:
        if word in prices:
            price = prices[word]
            if not is_integer(price) or not 1 <= price <= GREATEST_PRICE:
                raise InvalidPrices(word)


def check_remedy(system, prices, most):
    """Raises the errors of a system, of prices and of `most`, and Mismatch for the system."""
    check_system(system)
    check_prices(prices)
    if not is_index(most, MOST_CHANGES + 1):
        raise InvalidNumber("most")
    require_rings(system)


def find_remedy(system, prices, most):
    """A tuple (price, some, paper) of the least choice behind which nothing is stuck, None if there is none."""
    check_remedy(system, prices, most)
    evidence = Evidence()
    paper = []
    for price, some in Choices(system, prices, most).all_rows():
        if evidence.shows(some):
            continue
        ring = find_ring(with_some(system, some))
        if ring is None:
            return (price, some, paper)
        part = part_of(some, [template for template, _, _ in ring])
        evidence.keep(part, ring)
        paper.append((part, ring))
    return None


def least_remedy(system, prices, most):
    """The least price of changes behind which nothing can be stuck, and the changes; None if there are none."""
    found = find_remedy(system, prices, most)
    return None if found is None else found[:2]


def remedy_paper(system, prices, most):
    """What least_remedy returns, with a paper that nothing cheaper helps; None if there is nothing."""
    return find_remedy(system, prices, most)


def shows_least(system, prices, most, some, paper):
    """Whether changes are a choice behind which nothing can be stuck, and a value shows that nothing cheaper helps."""
    check_remedy(system, prices, most)
    read = require_changes(system, some)
    choices = Choices(system, prices, most)
    if len(read) > most or not all(change[0] in prices for change in read):
        return False
    if find_ring(with_some(system, read)) is not None:
        return False
    evidence = EntryReader(system).evidence_of(paper)
    if evidence is None:
        return False
    price = choices.price_of(read)
    return all(evidence.shows(choice) for cost, choice in choices.all_rows() if cost < price)


def touched(system):
    """The ascending list of the templates of which some instances can be stuck alone."""
    check_ring_system(system)
    finder = Finder(system)
    return [index for index in range(len(system[2])) if finder.ring_among([index], AnyRing()) is not None]
