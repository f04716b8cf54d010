"""Benches: catalogs that are worked on, deed by deed."""

from wishedtongues.catalogs import check_catalog, check_key, check_text, has_key, kind_of
from wishedtongues.errors import Mixed, Needless, NoBlock, NothingThere, NothingToUndo
from wishedtongues.forms import form_of
from wishedtongues.kinds import is_tuple
from wishedtongues.leanness import is_needless
from wishedtongues.pages import check_page
from wishedtongues.paging import first_mixing
from wishedtongues.paths import has_locale
from wishedtongues.rows import entries_of, rows_with
from wishedtongues.showing import row_of
from wishedtongues.trees import check_locale, check_wishes


def is_entry(catalog, value):
    """Whether any value is an entry of the catalog."""
    if not is_tuple(value) or len(value) != 2:
        return False
    locale, key = value
    if not has_locale(catalog[0], locale) or not has_key(catalog, key):
        return False
    return catalog[2][locale][key] is not None


def behind_put(catalog, locale, key, text):
    """The catalog behind a put."""
    check_locale(catalog[0], locale)
    check_key(catalog, key)
    check_text(text)
    tree, way, rows = catalog
    return (tree, way, rows_with(rows, locale, key, text))


def behind_take(catalog, locale, key):
    """The catalog behind a take."""
    check_locale(catalog[0], locale)
    check_key(catalog, key)
    tree, way, rows = catalog
    if rows[locale][key] is None:
        raise NothingThere("there is no entry to take")
    return (tree, way, rows_with(rows, locale, key, None))


def check_not_mixed(catalog, page):
    """Raise Mixed if the page can be mixed."""
    wishes = first_mixing(catalog, page)
    if wishes is not None:
        raise Mixed(wishes)


def check_needed(catalog, entry):
    """Raise Needless if the entry is needless."""
    if is_needless(catalog, entry):
        raise Needless("the entry would be needless")


class Bench:
    """A catalog that is worked on."""

    def __init__(self, catalog):
        check_catalog(catalog)
        self._catalog = catalog
        # A word and the catalog ahead of it for each deed that was not taken back.
        self._deeds = []
        # How many deeds there were at the beginning of each block.
        self._blocks = []

    @property
    def catalog(self):
        """The catalog as it is now."""
        return self._catalog

    @property
    def tree(self):
        """The tree of the catalog."""
        return self._catalog[0]

    @property
    def way(self):
        """The way to fall back of the catalog."""
        return self._catalog[1]

    def put(self, locale, key, text):
        """Set a text, and return the one that was there before, or None."""
        catalog = behind_put(self._catalog, locale, key, text)
        return self._do("put", catalog, locale, key)

    def take(self, locale, key):
        """Take an entry out, and return its text."""
        catalog = behind_take(self._catalog, locale, key)
        return self._do("take", catalog, locale, key)

    def show(self, wishes):
        """The shown row of the wish list."""
        check_wishes(self._catalog[0], wishes)
        return row_of(self._catalog, wishes)

    def mixing(self, page):
        """The least of the shortest wish lists that mix the page, or None."""
        check_page(self._catalog, page)
        return first_mixing(self._catalog, page)

    def undo(self):
        """Take back the last deed of the innermost block, and return its word."""
        if len(self._deeds) == self._count_kept():
            raise NothingToUndo("there is no deed to take back")
        return self._take_back()

    def begin(self):
        """Begin a block."""
        self._blocks.append(len(self._deeds))

    def finish(self):
        """End the innermost block, and take back what was done in it."""
        if len(self._blocks) == 0:
            raise NoBlock("there is no block to finish")
        while len(self._deeds) > self._count_kept():
            self._take_back()
        self._blocks.pop()

    def twin(self):
        """An independent copy, outside of all blocks, that can take back the same deeds."""
        return self._with_deeds(Bench(self._catalog))

    def __len__(self):
        return len(entries_of(self._catalog[2]))

    def __getitem__(self, locale):
        check_locale(self._catalog[0], locale)
        return self._catalog[2][locale]

    def __iter__(self):
        raise TypeError("a bench is not iterated over")

    def __contains__(self, value):
        return is_entry(self._catalog, value)

    def __eq__(self, other):
        if not isinstance(other, Bench) or kind_of(other._catalog) != kind_of(self._catalog):
            return False
        return form_of(other._catalog) == form_of(self._catalog)

    def _do(self, word, catalog, locale, key):
        """Do a deed behind which this is the catalog; return the text that was there before."""
        before = self._catalog
        self._deeds.append((word, before))
        self._catalog = catalog
        return before[2][locale][key]

    def _count_kept(self):
        """How many deeds were done ahead of the innermost block, so that it keeps them."""
        if len(self._blocks) == 0:
            return 0
        return self._blocks[-1]

    def _take_back(self):
        """Take back the last deed, and return its word."""
        word, catalog = self._deeds.pop()
        self._catalog = catalog
        return word

    def _with_deeds(self, bench):
        """The new bench, which can now take back what this one has done."""
        bench._deeds = list(self._deeds)
        return bench


class LeanBench(Bench):
    """A bench that refuses to put needless entries."""

    def __init__(self, catalog):
        Bench.__init__(self, catalog)

    def put(self, locale, key, text):
        """Set a text, and return the one that was there before, or None."""
        catalog = behind_put(self._catalog, locale, key, text)
        check_needed(catalog, (locale, key))
        return self._do("put", catalog, locale, key)

    def take(self, locale, key):
        """Take an entry out, and return its text, also if others are needless behind it."""
        catalog = behind_take(self._catalog, locale, key)
        return self._do("take", catalog, locale, key)

    def twin(self):
        """An independent copy, outside of all blocks, that can take back the same deeds."""
        return self._with_deeds(LeanBench(self._catalog))


class PageBench(Bench):
    """A bench that keeps a page from being mixed."""

    def __init__(self, catalog, *, page):
        Bench.__init__(self, catalog)
        check_page(catalog, page)
        check_not_mixed(catalog, page)
        self._page = page

    @property
    def page(self):
        """The page that no wish list mixes."""
        return self._page

    def put(self, locale, key, text):
        """Set a text, and return the one that was there before, or None."""
        catalog = behind_put(self._catalog, locale, key, text)
        check_not_mixed(catalog, self._page)
        return self._do("put", catalog, locale, key)

    def take(self, locale, key):
        """Take an entry out, and return its text."""
        catalog = behind_take(self._catalog, locale, key)
        check_not_mixed(catalog, self._page)
        return self._do("take", catalog, locale, key)

    def twin(self):
        """An independent copy, outside of all blocks, that can take back the same deeds."""
        return self._with_deeds(PageBench(self._catalog, page=self._page))


class LeanPageBench(LeanBench, PageBench):
    """A bench that keeps a page from being mixed and refuses to put needless entries."""

    def __init__(self, catalog, *, page):
        PageBench.__init__(self, catalog, page=page)

    @property
    def page(self):
        """The page that no wish list mixes."""
        return self._page

    def put(self, locale, key, text):
        """Set a text, and return the one that was there before, or None."""
        catalog = behind_put(self._catalog, locale, key, text)
        check_not_mixed(catalog, self._page)
        check_needed(catalog, (locale, key))
        return self._do("put", catalog, locale, key)

    def take(self, locale, key):
        """Take an entry out, and return its text, also if others are needless behind it."""
        catalog = behind_take(self._catalog, locale, key)
        check_not_mixed(catalog, self._page)
        return self._do("take", catalog, locale, key)

    def twin(self):
        """An independent copy, outside of all blocks, that can take back the same deeds."""
        return self._with_deeds(LeanPageBench(self._catalog, page=self._page))
