"""A console that works on a catalog by commands of words."""

from wishedtongues.benches import Bench
from wishedtongues.commands import read_command
from wishedtongues.errors import WishError
from wishedtongues.forms import form_of
from wishedtongues.leanness import least_count, least_of
from wishedtongues.paths import slim_of
from wishedtongues.rows import entries_of
from wishedtongues.showing import first_place, sought
from wishedtongues.spelling import digit_of, letter_of, word_of_row, words_of_wishes


def answer_put(bench, arguments):
    """The digit that was there before the put, or the sign for none."""
    locale, key, text = arguments
    return digit_of(bench.put(locale, key, text))


def answer_take(bench, arguments):
    """The digit that was taken."""
    locale, key = arguments
    return digit_of(bench.take(locale, key))


def answer_undo(bench, _):
    """The word of what was taken back."""
    return bench.undo()


def answer_show(bench, arguments):
    """The shown row as one word."""
    return word_of_row(bench.show(arguments[0]))


def answer_place(bench, arguments):
    """The letter of the place of a key, or the sign for none."""
    key, wishes = arguments
    catalog = bench.catalog
    return letter_of(first_place(catalog[2], sought(catalog, wishes), key))


def answer_slim(bench, arguments):
    """The words of the slim list."""
    return words_of_wishes(slim_of(bench.tree, arguments[0]))


def answer_mixing(bench, arguments):
    """The words of the list that mixes the page, or none."""
    wishes = bench.mixing(arguments[0])
    return "none" if wishes is None else words_of_wishes(wishes)


def answer_least(bench, _):
    """How many entries a least alike catalog has, and how many of these there are."""
    catalog = bench.catalog
    entries = entries_of(least_of(catalog)[2])
    return str(len(entries)) + " " + str(least_count(catalog, form_of(catalog)))


ANSWERS = {
    "put": answer_put,
    "take": answer_take,
    "undo": answer_undo,
    "show": answer_show,
    "place": answer_place,
    "slim": answer_slim,
    "mixing": answer_mixing,
    "least": answer_least,
}


class Console:
    """A bench that is worked on by commands."""

    def __init__(self, catalog):
        self._bench = Bench(catalog)

    def execute(self, command):
        """Do what the command says, and return its answer."""
        tries, word, arguments = read_command(self._bench.catalog, command)
        return self._answer(tries, word, arguments)

    def _answer(self, tries, word, arguments):
        """The answer to a command inside of so many blocks, which are finished behind it."""
        if tries == 0:
            action = ANSWERS[word]
            return action(self._bench, arguments)
        self._bench.begin()
        try:
            answer = self._answer(tries - 1, word, arguments)
        except WishError:
            self._bench.finish()
            raise
        self._bench.finish()
        return answer
