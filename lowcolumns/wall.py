"""Walls: columns with cards that are changed call by call.

The interface lists its methods and properties for each of the four classes, so
each class has them in its own body, even where they only call those above.
"""

from lowcolumns.changes import with_item, with_moved_item, with_other_item, without_item
from lowcolumns.checks import MOST_NUMBER, check_columns, check_height, check_index, check_number, is_one_height
from lowcolumns.errors import EmptyHistoryError, FullError
from lowcolumns.layouts import lay_cards
from lowcolumns.text import parse_cards_from_zero


class Wall:
    """A wall in which a card goes into the left one of equally low columns."""

    MOST = 200

    def __init__(self, columns):
        check_columns(columns)
        self._columns = columns
        self._right = False
        self._gap = 0
        # Each change puts a new list here, so the calls and the twins can share the old ones.
        self._cards = []
        # The columns and cards before each call that is not reverted.
        self._calls = []

    @classmethod
    def _made(cls, columns, cards):
        """Return a wall of this class with these columns and cards, the default gap, and no calls."""
        made = cls(columns)
        made._cards = cards
        return made

    def _places(self, cards):
        """Return the list of the tuples (column, top) of cards if the wall had these."""
        places, _ = lay_cards([0] * self._columns, [height + self._gap for height in cards], self._right)
        return places

    def _bottoms(self):
        """Return the list of the bottoms of the last cards of the columns, 0 without cards."""
        bottoms = [0] * self._columns
        for (column, top), height in zip(self._places(self._cards), self._cards):
            bottoms[column] = top + height
        return bottoms

    def _is_like(self, other):
        """Return whether another wall has the same class, width, gap and heights."""
        like = self._columns == other._columns and self._gap == other._gap and self._cards == other._cards
        return type(self) is type(other) and like

    def _check_room(self, many):
        """Raise an error if so many cards more are too many."""
        if len(self._cards) + many > Wall.MOST:
            raise FullError("a wall has at most 200 cards")

    def _change(self, columns, cards):
        """Give the wall these columns and cards; undo brings back the ones before."""
        self._calls.append((self._columns, self._cards))
        self._columns = columns
        self._cards = cards

    @staticmethod
    def is_height(value):
        """Return whether any value is a height."""
        return is_one_height(value)

    @classmethod
    def read(cls, text):
        """Return a wall of this class with the columns and cards of a string, and no calls."""
        columns, heights = parse_cards_from_zero(text)
        return cls._made(columns, heights)

    def add(self, *heights):
        """Add cards at the end and return the list of their columns."""
        columns = self.tried(*heights)
        self._change(self._columns, self._cards + list(heights))
        return columns

    def tried(self, *heights):
        """Return the list of the columns that add would return, or raise its errors."""
        for height in heights:
            check_height(height)
        self._check_room(len(heights))
        places = self._places(self._cards + list(heights))
        return [column for column, top in places[len(self._cards):]]

    def report(self):
        """Return the list of strings about the wall."""
        return [f"cards {len(self._cards)}"]

    def put_in(self, index, height):
        """Put a card in ahead of the card with the index, or at the end."""
        check_index(index, len(self._cards) + 1)
        check_height(height)
        self._check_room(1)
        self._change(self._columns, with_item(self._cards, index, height))

    def take_out(self, index):
        """Take a card out."""
        check_index(index, len(self._cards))
        self._change(self._columns, without_item(self._cards, index))

    def shift(self, index, place):
        """Move a card so that its index is the place."""
        check_index(index, len(self._cards))
        check_index(place, len(self._cards))
        self._change(self._columns, with_moved_item(self._cards, index, place))

    def stretch(self, index, height):
        """Give a card another height."""
        check_index(index, len(self._cards))
        check_height(height)
        self._change(self._columns, with_other_item(self._cards, index, height))

    def resize(self, columns):
        """Give the wall another number of columns."""
        check_columns(columns)
        self._change(columns, self._cards)

    def undo(self):
        """Revert the last call that changed the wall and is not reverted."""
        if len(self._calls) == 0:
            raise EmptyHistoryError("there is no call to undo")
        self._columns, self._cards = self._calls.pop()

    def twin(self):
        """Return an independent equal wall with the same calls to undo."""
        other = self._made(self._columns, self._cards)
        other._gap = self._gap
        other._calls = list(self._calls)
        return other

    @property
    def heights(self):
        """The list of the heights of the cards."""
        return list(self._cards)

    @property
    def card_columns(self):
        """The list of the columns of the cards."""
        return [column for column, top in self._places(self._cards)]

    @property
    def tops(self):
        """The list of the tops of the cards."""
        return [top for column, top in self._places(self._cards)]

    @property
    def end(self):
        """The list of the bottoms of the last cards of the columns, 0 without cards."""
        return self._bottoms()

    @property
    def width(self):
        """The number of columns."""
        return self._columns

    def __eq__(self, other):
        return isinstance(other, Wall) and self._is_like(other)

    def __len__(self):
        return len(self._cards)


class RightWall(Wall):
    """A wall in which a card goes into the right one of equally low columns."""

    def __init__(self, columns):
        super().__init__(columns)
        self._right = True

    @staticmethod
    def is_height(value):
        return is_one_height(value)

    @classmethod
    def read(cls, text):
        columns, heights = parse_cards_from_zero(text)
        return cls._made(columns, heights)

    def add(self, *heights):
        return super().add(*heights)

    def tried(self, *heights):
        return super().tried(*heights)

    def report(self):
        return super().report() + ["ties right"]

    def put_in(self, index, height):
        super().put_in(index, height)

    def take_out(self, index):
        super().take_out(index)

    def shift(self, index, place):
        super().shift(index, place)

    def stretch(self, index, height):
        super().stretch(index, height)

    def resize(self, columns):
        super().resize(columns)

    def undo(self):
        super().undo()

    def twin(self):
        return super().twin()

    @property
    def heights(self):
        return list(self._cards)

    @property
    def card_columns(self):
        return [column for column, top in self._places(self._cards)]

    @property
    def tops(self):
        return [top for column, top in self._places(self._cards)]

    @property
    def end(self):
        return self._bottoms()

    @property
    def width(self):
        return self._columns

    def __eq__(self, other):
        return isinstance(other, RightWall) and self._is_like(other)

    def __len__(self):
        return len(self._cards)


class GapWall(Wall):
    """A wall that leaves a gap free below each card."""

    def __init__(self, columns, gap=1):
        super().__init__(columns)
        check_number(gap, MOST_NUMBER)
        self._gap = gap

    @staticmethod
    def is_height(value):
        return is_one_height(value)

    @classmethod
    def read(cls, text):
        columns, heights = parse_cards_from_zero(text)
        return cls._made(columns, heights)

    def add(self, *heights):
        return super().add(*heights)

    def tried(self, *heights):
        return super().tried(*heights)

    def report(self):
        return super().report() + [f"gap {self._gap}"]

    def put_in(self, index, height):
        super().put_in(index, height)

    def take_out(self, index):
        super().take_out(index)

    def shift(self, index, place):
        super().shift(index, place)

    def stretch(self, index, height):
        super().stretch(index, height)

    def resize(self, columns):
        super().resize(columns)

    def undo(self):
        super().undo()

    def twin(self):
        return super().twin()

    @property
    def heights(self):
        return list(self._cards)

    @property
    def card_columns(self):
        return [column for column, top in self._places(self._cards)]

    @property
    def tops(self):
        return [top for column, top in self._places(self._cards)]

    @property
    def end(self):
        return self._bottoms()

    @property
    def width(self):
        return self._columns

    @property
    def gap(self):
        """The number of units that are free below each card."""
        return self._gap

    def __eq__(self, other):
        return isinstance(other, GapWall) and self._is_like(other)

    def __len__(self):
        return len(self._cards)


class GapRightWall(GapWall, RightWall):
    """A wall that does both."""

    def __init__(self, columns, gap=1):
        super().__init__(columns, gap)

    @staticmethod
    def is_height(value):
        return is_one_height(value)

    @classmethod
    def read(cls, text):
        columns, heights = parse_cards_from_zero(text)
        return cls._made(columns, heights)

    def add(self, *heights):
        return super().add(*heights)

    def tried(self, *heights):
        return super().tried(*heights)

    def report(self):
        return super().report()

    def put_in(self, index, height):
        super().put_in(index, height)

    def take_out(self, index):
        super().take_out(index)

    def shift(self, index, place):
        super().shift(index, place)

    def stretch(self, index, height):
        super().stretch(index, height)

    def resize(self, columns):
        super().resize(columns)

    def undo(self):
        super().undo()

    def twin(self):
        return super().twin()

    @property
    def heights(self):
        return list(self._cards)

    @property
    def card_columns(self):
        return [column for column, top in self._places(self._cards)]

    @property
    def tops(self):
        return [top for column, top in self._places(self._cards)]

    @property
    def end(self):
        return self._bottoms()

    @property
    def width(self):
        return self._columns

    @property
    def gap(self):
        return self._gap

    def __eq__(self, other):
        return isinstance(other, GapRightWall) and self._is_like(other)

    def __len__(self):
        return len(self._cards)
