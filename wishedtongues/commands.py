"""Reading of the console's commands; the catalog is taken to be valid."""

from wishedtongues.catalogs import count_keys
from wishedtongues.errors import InvalidCommand, InvalidWords
from wishedtongues.spelling import (
    DIGITS,
    LETTERS,
    ascending_from,
    check_end,
    index_at,
    wishes_from,
    word_at,
)

MOST_TRIES = 8

# What stands behind the word of a command: L for a locale, K for a key, T for a
# text, and at the end W for a wish list, P for a page.
FORMS = {
    "put": "LKT",
    "take": "LK",
    "undo": "",
    "show": "W",
    "place": "KW",
    "slim": "W",
    "mixing": "P",
    "least": "",
}


def argument_at(catalog, sign, words, at):
    """The argument of this sign of a form, from the word with this number on."""
    letters = LETTERS[:len(catalog[0])]
    keys = DIGITS[:count_keys(catalog)]
    if sign == "L":
        return index_at(letters, words, at)
    if sign == "K":
        return index_at(keys, words, at)
    if sign == "T":
        return index_at(DIGITS, words, at)
    if sign == "W":
        return wishes_from(letters, words, at)
    return ascending_from(keys, words, at)


def arguments_from(catalog, form, words, start):
    """The arguments of a command of this form, from the word with this number on."""
    found = [argument_at(catalog, sign, words, start + at) for at, sign in enumerate(form)]
    # A wish list and a page take all words that are left.
    if "W" not in form and "P" not in form:
        check_end(words, start + len(form))
    return tuple(found)


def count_tries(words):
    """How many words try stand ahead of the others."""
    many = 0
    while word_at(words, many) == "try":
        many += 1
    return many


def read_command(catalog, command):
    """How many words try stand ahead of any command, its word and its arguments."""
    if not isinstance(command, str):
        raise InvalidCommand("a command is a string")
    words = command.split(" ")
    tries = count_tries(words)
    word = word_at(words, tries)
    if tries > MOST_TRIES or word not in FORMS:
        raise InvalidCommand("this is no command")
    try:
        return (tries, word, arguments_from(catalog, FORMS[word], words, tries + 1))
    except InvalidWords:
        raise InvalidCommand("the words do not belong to the command") from None
