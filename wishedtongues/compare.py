"""Comparisons of two catalogs of one kind, for all wish lists at once."""

from wishedtongues.catalogs import check_catalog, check_one_kind
from wishedtongues.differing import first_lacking, first_parting
from wishedtongues.forms import form_of


def check_both(catalog, other_catalog):
    """Raise an error unless these are catalogs, and of one kind."""
    check_catalog(catalog)
    check_catalog(other_catalog)
    check_one_kind(catalog, other_catalog)


def alike(catalog, other_catalog):
    """Whether each wish list has the same shown row in both catalogs."""
    check_both(catalog, other_catalog)
    return form_of(catalog) == form_of(other_catalog)


def parting(catalog, other_catalog):
    """The least wish list and key that tell the catalogs apart, or None."""
    check_both(catalog, other_catalog)
    return first_parting(catalog, other_catalog)


def within(catalog, other_catalog):
    """Whether the other catalog shows each text that this one shows."""
    check_both(catalog, other_catalog)
    return first_lacking(catalog, other_catalog) is None


def lacking(catalog, other_catalog):
    """The least wish list and key whose text the other catalog does not show, or None."""
    check_both(catalog, other_catalog)
    return first_lacking(catalog, other_catalog)
