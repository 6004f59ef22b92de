"""Starts and cards as strings, and pictures of them."""

from lowcolumns.errors import InvalidFormatError, TooLargeError
from lowcolumns.layouts import check_start_and_cards, is_cards, is_start, lay_cards

DIGITS = "0123456789"
# No integer of a start or of cards is greater than 10 ** 30.
MOST_DIGITS = 31
LETTERS = "abcdefghijklmnopqrstuvwxyz"
MOST_ROWS = 60


def format_cards(start, heights):
    """Return the start and the cards as a string."""
    check_start_and_cards(start, heights)
    numbers = " ".join([str(height) for height in start])
    return numbers + ":" + "".join([" " + str(height) for height in heights])


def is_numeral(word):
    """Return whether the string is a number of at most 31 digits without leading zeros."""
    if word == "" or len(word) > MOST_DIGITS:
        return False
    if word[0] == "0" and word != "0":
        return False
    # Python takes digits of other scripts for digits, too, so it is not asked.
    return all([sign in DIGITS for sign in word])


def parse_cards(text):
    """Return the tuple (start, heights) of a string of a start and cards."""
    if not isinstance(text, str):
        raise InvalidFormatError("the value is not a string")
    head, colon, tail = text.partition(":")
    words = head.split(" ")
    # Each height has a space ahead of it, so nothing stands ahead of the first space.
    before, *others = tail.split(" ")
    if colon == "" or before != "" or not all([is_numeral(word) for word in words + others]):
        raise InvalidFormatError("the string is not numbers, a colon and numbers, with single spaces")
    start = [int(word) for word in words]
    heights = [int(word) for word in others]
    if not is_start(start) or not is_cards(heights):
        raise InvalidFormatError("the numbers of the string are not those of a start and cards")
    return start, heights


def parse_cards_from_zero(text):
    """Return the tuple (columns, heights) of a string in which all of so many columns are 0."""
    start, heights = parse_cards(text)
    if max(start) > 0:
        raise InvalidFormatError("the columns of the string do not begin with 0")
    return len(start), heights


def picture(start, heights):
    """Return the list of the rows of a picture, one string for each unit of height."""
    check_start_and_cards(start, heights)
    places, end = lay_cards(start, heights, False)
    many = max(end)
    if len(heights) > len(LETTERS) or many > MOST_ROWS:
        raise TooLargeError("a picture has at most 26 cards and 60 rows")
    columns = ["#" * height for height in start]
    for card, (column, top) in enumerate(places):
        columns[column] = columns[column] + LETTERS[card] * heights[card]
    filled = [column.ljust(many, ".") for column in columns]
    return ["".join([signs[row] for signs in filled]) for row in range(many)]
