"""Turns written as a text, a row for each, and read again."""

from heedwise.errors import NoRow

FIGURES = "0123456789"
ASLEEP = "-"
COLON = ":"


def word_of(what):
    if what is None:
        return ASLEEP
    return str(what)


def row_of(said, so):
    return " ".join([word_of(what) for what in said] + [COLON, str(so)])


def written(turns):
    return "\n".join([row_of(said, so) for said, so in turns])


def is_in_figures(most, word):
    if len(word) == 0 or len(word) > most:
        return False
    if not all([sign in FIGURES for sign in word]):
        return False
    return word[0] != "0" or len(word) == 1


def is_number(scale, word):
    # The length is looked at ahead of int, which Python refuses to make of very many figures.
    return is_in_figures(len(str(scale)), word) and int(word) <= scale


def are_words(many, scale, words):
    if len(words) != many + 2 or words[many] != COLON:
        return False
    if not all([word == ASLEEP or is_number(scale, word) for word in words[:many]]):
        return False
    return is_number(scale, words[many + 1])


def what_of(word):
    if word == ASLEEP:
        return None
    return int(word)


def read_row(many, scale, number, row):
    words = row.split(" ")
    if not are_words(many, scale, words):
        raise NoRow(number)
    return (tuple([what_of(word) for word in words[:many]]), int(words[many + 1]))


def read(many, scale, text):
    # Split at its line ends, the text without signs would be one empty row.
    if text == "":
        return ()
    return tuple([read_row(many, scale, number, row) for number, row in enumerate(text.split("\n"))])
