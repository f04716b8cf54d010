"""Needless entries, and the catalogs with the fewest entries that show the same."""

from wishedtongues.catalogs import check_catalog
from wishedtongues.forms import form_of
from wishedtongues.kinds import check_choice
from wishedtongues.leanness import least_count, least_of, needless_entries, nth_least
from wishedtongues.rows import entries_of


def needless(catalog):
    """The ascending list of the entries each of which can go by itself."""
    check_catalog(catalog)
    return needless_entries(catalog)


def is_least(catalog):
    """Whether no alike catalog has fewer entries."""
    check_catalog(catalog)
    return len(entries_of(catalog[2])) == len(entries_of(least_of(catalog)[2]))


def least(catalog):
    """An alike catalog with the fewest entries."""
    check_catalog(catalog)
    return least_of(catalog)


def count_least(catalog):
    """How many alike catalogs with the fewest entries there are."""
    check_catalog(catalog)
    return least_count(catalog, form_of(catalog))


def least_catalogs(catalog, *, most=1000):
    """Iterate over the first least catalogs, ascending by their lists of entries."""
    check_catalog(catalog)
    check_choice(most, 1, 1000)
    form = form_of(catalog)
    for number in range(min(most, least_count(catalog, form))):
        yield nth_least(catalog, form, number)
