"""The refusals: one class for each kind, all straight under WipeError."""


class WipeError(ValueError):
    """Any refusal of this package."""


class NoText(WipeError):
    """A text, or anything else, that is not written as a program is."""


class TooLong(WipeError):
    """A program that would grow beyond its bound."""


class NoCode(WipeError):
    """A row of which no code can be told."""


class NoTurn(WipeError):
    """A turn that its rule does not let."""


class NoRow(WipeError):
    """A row, or a program, that cannot be taken here."""


class NoAnswer(WipeError):
    """An answer that cannot be given; number says which one, from 0."""

    def __init__(self, number):
        # The text leaves the number out: Python refuses to write very great ones.
        super().__init__("an answer that cannot be given")
        self.number = number
