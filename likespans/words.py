"""Words of texts: numbers in digits, and names in letters."""

DIGITS = "0123456789"
LETTERS = "abcdefghijklmnopqrstuvwxyz"
MOST_DIGITS = 9
MOST_LETTERS = 8


def is_digits(word):
    """Whether a word is a whole number, written in digits without a needless 0."""
    if word == "" or not all([sign in DIGITS for sign in word]):
        return False
    return word == "0" or word[0] != "0"


def is_count(word):
    """Whether a word is a whole number of so few digits as rows may have."""
    return len(word) <= MOST_DIGITS and is_digits(word)


def are_counts(words):
    """Whether all of some words are such whole numbers."""
    return all([is_count(word) for word in words])


def is_name(word):
    """Whether a word is a name, of so few letters as rows may have."""
    return 1 <= len(word) <= MOST_LETTERS and all([sign in LETTERS for sign in word])
