"""Words of texts: lines are parted by line feeds, words by one blank."""

from tiedtables.things import is_number

# No number that may be handed in has more.
MOST_FIGURES = 10
FIGURES = "0123456789"


def worth_of(word):
    """The worth that is so written; the word itself where none is, which is no worth then."""
    if word == "-":
        return None
    figures = word[1:] if word.startswith("-") else word
    if not 1 <= len(figures) <= MOST_FIGURES or not all([sign in FIGURES for sign in figures]):
        return word
    # No nought stands ahead, and no minus ahead of it.
    if figures[0] == "0" and word != "0":
        return word
    return int(word)


def worth_text(worth):
    """The word for a worth."""
    return "-" if worth is None else str(worth)


def place_of(word):
    """The place that is so written, as worth_of tells a worth."""
    if word == "many":
        return (word,)
    for side in ("old", "new"):
        if word.startswith(side + "."):
            return (side, word[len(side) + 1:])
    return worth_of(word)


def place_text(place):
    """The word for a place."""
    if place is None or is_number(place):
        return worth_text(place)
    return ".".join(place)


def row_words(row):
    """The words for a row's worths."""
    return [worth_text(worth) for worth in row]
