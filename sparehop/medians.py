"""Medians of three plans, and the nearest plan with what another plan has."""

from sparehop.differences import differences, with_differences
from sparehop.forms import is_plan
from sparehop.precedence import closed_with
from sparehop.vertices import plan_by, vertices_of
from sparehop.words import median_word


def median(fleet, one, other, third):
    """Return the PLAN that is BETWEEN each two of three PLANS."""
    rows = [vertices_of(fleet, plan) for plan in (one, other, third)]
    return plan_by(fleet, tuple([median_word(*words) for words in zip(*rows)]))


def is_median(fleet, one, other, third, thing):
    """Tell whether a value is the PLAN that is BETWEEN each two of three PLANS."""
    return is_plan(fleet, thing) and thing == median(fleet, one, other, third)


def nearest_with(fleet, one, other, leases):
    """Return the PLAN nearest to one that is not apart from other for any of these LEASES."""
    lot = tuple([difference for difference in differences(fleet, one, other) if difference[0] in leases])
    return with_differences(fleet, one, closed_with(fleet, one, other, lot))
