"""Companies: which sets of templates can be stuck without the others."""

from stuckrows.bitsets import bits
from stuckrows.bounds import AnyRing
from stuckrows.errors import InvalidNumber, InvalidPrices
from stuckrows.finder import Finder
from stuckrows.templates import check_ring_system, check_system, require_rings
from stuckrows.words import is_index, is_integer


def is_company(system, value):
    """Whether a value is an ascending tuple of different indexes of templates."""
    if not isinstance(value, tuple) or not all(is_index(index, len(system[2])) for index in value):
        return False
    return all(low < high for low, high in zip(value, value[1:]))


def company_ring(system, company):
    """A shortest ring in which only templates of the company stand, None if there is none."""
    check_system(system)
    if not is_company(system, company):
        raise InvalidNumber("company")
    require_rings(system)
    return Finder(system).ring_among(company, AnyRing())


def holds_one_of(company, others):
    """Whether one of some other companies is within a company."""
    return any(other & ~company == 0 for other in others)


def least_companies(system):
    """The list of the companies that can be stuck while no smaller one within them can."""
    check_ring_system(system)
    found = [tuple(bits(company)) for company in Finder(system).least_supports()]
    return sorted(found, key=lambda company: (len(company), company))


def safe_companies(system):
    """The list of the companies that cannot be stuck while with each further template they can."""
    check_ring_system(system)
    least = Finder(system).least_supports()
    size = len(system[2])
    found = []
    for company in range(1 << size):
        further = [company | 1 << index for index in range(size) if not company >> index & 1]
        if not holds_one_of(company, least) and all(holds_one_of(more, least) for more in further):
            found.append(tuple(bits(company)))
    return sorted(found, key=lambda company: (-len(company), company))


def check_prices(system, prices):
    """Raises InvalidPrices if a value has not an integer >= 0 for each template."""
    if not isinstance(prices, (list, tuple)) or len(prices) != len(system[2]):
        raise InvalidPrices("prices")
    if not all(is_integer(price) and price >= 0 for price in prices):
        raise InvalidPrices("prices")


def least_removal(system, prices):
    """The company of the least price without which the other templates cannot be stuck."""
    check_system(system)
    check_prices(system, prices)
    require_rings(system)
    least = Finder(system).least_supports()
    everything = (1 << len(system[2])) - 1
    rows = []
    for removed in range(everything + 1):
        if not holds_one_of(everything & ~removed, least):
            company = tuple(bits(removed))
            rows.append((sum([prices[index] for index in company]), len(company), company))
    return min(rows)[2]
