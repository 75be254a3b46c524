"""Numerals: how whole numbers are written in texts, without needless zeros."""


def number_in(word):
    """The whole number from 0 on that the word writes, or None if it writes none."""
    if not word.isascii() or not word.isdecimal():
        return None
    return None if word.startswith("0") and word != "0" else int(word)


def whole_in(word):
    """The whole number that the word writes, with a minus if it is below 0, or None."""
    if not word.startswith("-"):
        return number_in(word)
    number = number_in(word[1:])
    return None if number is None or number == 0 else -number


def spelled(words):
    """The words, numbers among them, with one space between."""
    return " ".join([str(word) for word in words])
