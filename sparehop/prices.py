"""What scripts cost, and the least that any script to a plan can cost."""

from sparehop.apart import aparts
from sparehop.leading import leads_by


def price_of(prices, script):
    """Return the price of a SCRIPT."""
    return sum([prices[lease] for lease in script])


def least_price(fleet, prices, one, other):
    """Return the sum of APART times the price over all LEASES."""
    return sum([many * prices[lease] for lease, many in aparts(fleet, one, other).items()])


def edits_by_lease(script):
    """Return the dict from the LEASES in a SCRIPT to how often they occur in it."""
    told = {}
    for lease in sorted(script):
        told[lease] = told.get(lease, 0) + 1
    return told


def is_cheapest_script(fleet, pins, prices, one, other, thing):
    """Tell whether a value is a SCRIPT from one PLAN to another with the least price."""
    if not leads_by(fleet, pins, one, other, thing):
        return False
    return price_of(prices, thing) == least_price(fleet, prices, one, other)
