"""Numbers in words, as texts write them."""

FIGURES = "0123456789"
LONGEST = 9
GREATEST_NUMBER = 10 ** 12
LAST_PLACE = 5


def is_in_figures(word):
    """Whether a word is figures, without a nought ahead but in 0 itself."""
    if word == "" or not all(sign in FIGURES for sign in word):
        return False
    return word == "0" or word[0] != "0"


def name_in(word):
    """The number of a row or a block that a word is, None of other words."""
    return int(word) if len(word) <= LONGEST and is_in_figures(word) else None


def place_in(word):
    """The place or the room that a word is, None of other words."""
    place = name_in(word)
    return place if place is not None and place <= LAST_PLACE else None


def number_in_words(word):
    """The number, maybe with a minus ahead, that a word is, None of other words."""
    bare = word[1:] if word.startswith("-") else word
    # The length is looked at first: however long a word is, it's not made a number.
    if word == "-0" or len(bare) > len(str(GREATEST_NUMBER)) or not is_in_figures(bare):
        return None
    return int(word) if int(bare) <= GREATEST_NUMBER else None


READERS = {
    "number": number_in_words,
    "place": place_in,
    "row": name_in,
    "block": name_in,
    "parts": name_in,
    "rooms": place_in,
}


def number_of_kind(word, kind):
    """The number that a word is where one of a kind is asked for, None of other words."""
    reader = READERS[kind]
    return reader(word)
