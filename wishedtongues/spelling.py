"""Locales, texts, wish lists and the like as words.

What is spelled is taken to be valid. What is read comes out of a list of words;
InvalidWords has the number of the first word that is wrong or missing.
"""

from wishedtongues.errors import InvalidWords

LETTERS = "abcdefghij"
DIGITS = "0123456789"
NONE = "-"


def letter_of(locale):
    """The letter of a locale, or the sign for none."""
    return NONE if locale is None else LETTERS[locale]


def digit_of(text):
    """The digit of a text, or the sign for none."""
    return NONE if text is None else DIGITS[text]


def word_of_row(row):
    """The word with a sign for each key of a row."""
    return "".join([digit_of(text) for text in row])


def word_of_pair(pair):
    """The word of a pair of locales."""
    return letter_of(pair[0]) + ">" + letter_of(pair[1])


def words_or_none(words):
    """The words with single spaces between, or the sign for none."""
    return " ".join(words) if len(words) > 0 else NONE


def words_of_wishes(wishes):
    """The words of a wish list."""
    return words_or_none([letter_of(wish) for wish in wishes])


def words_of_pairs(pairs):
    """The words of the pairs of a door."""
    return words_or_none([word_of_pair(pair) for pair in pairs])


def word_at(words, at):
    """The word with this number; an empty one, which can never stand, if it is missing."""
    return words[at] if at < len(words) else ""


def check_end(words, at):
    """Raise InvalidWords if there is a word with this number."""
    if at < len(words):
        raise InvalidWords(at)


def check_word(words, at, choices):
    """Raise InvalidWords unless the word with this number is one of the choices."""
    if word_at(words, at) not in choices:
        raise InvalidWords(at)


def is_sign(signs, word):
    """Whether the word is one of the signs."""
    return len(word) == 1 and word in signs


def index_at(signs, words, at, low=0):
    """The index among the signs, from low on, of the word with this number."""
    word = word_at(words, at)
    if not is_sign(signs[low:], word):
        raise InvalidWords(at)
    return signs.index(word)


def pair_at(letters, words, at, low):
    """The pair of locales, the first one from low on, of the word with this number."""
    word = word_at(words, at)
    if len(word) != 3 or word[1] != ">" or word[0] not in letters[low:] or word[2] not in letters:
        raise InvalidWords(at)
    return (letters.index(word[0]), letters.index(word[2]))


def row_at(words, at, fewest, most):
    """The row of the word with this number, which has so many signs."""
    word = word_at(words, at)
    if not fewest <= len(word) <= most or not all([sign == NONE or sign in DIGITS for sign in word]):
        raise InvalidWords(at)
    return tuple([None if sign == NONE else DIGITS.index(sign) for sign in word])


def has_none_at(words, at):
    """Whether the word with this number is the sign for none, behind which nothing can stand."""
    if word_at(words, at) != NONE:
        return False
    check_end(words, at + 1)
    return True


def numbers_from(words, start):
    """The numbers of the words from this one on, and this one also if it is missing."""
    return list(range(start, max(len(words), start + 1)))


def indexes_from(signs, words, start):
    """The indexes among the signs of the words from this one on, one at least."""
    return tuple([index_at(signs, words, at) for at in numbers_from(words, start)])


def ascending_from(signs, words, start):
    """The same for indexes that ascend."""
    found = []
    low = 0
    for at in numbers_from(words, start):
        index = index_at(signs, words, at, low)
        found.append(index)
        low = index + 1
    return tuple(found)


def pairs_from(letters, words, start):
    """The pairs, with first locales that ascend, of the words from this one on, one at least."""
    found = []
    low = 0
    for at in numbers_from(words, start):
        pair = pair_at(letters, words, at, low)
        found.append(pair)
        low = pair[0] + 1
    return tuple(found)


def wishes_from(letters, words, start):
    """The wish list of the words from this one on."""
    if has_none_at(words, start):
        return ()
    return indexes_from(letters, words, start)
