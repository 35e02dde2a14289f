"""The refusals: all of them stand right under NewError."""


class NewError(ValueError):
    """Any refusal."""


class NoName(NewError):
    """A text that should be a name is none."""


class Twice(NewError):
    """A name stands twice on the same side of a plan."""

    def __init__(self, name):
        super().__init__(f"{name} stands twice")
        self.name = name


class Missing(NewError):
    """Nothing is held under the name."""

    def __init__(self, name):
        super().__init__(f"nothing is under {name}")
        self.name = name


class Held(NewError):
    """The name is not free."""

    def __init__(self, name):
        super().__init__(f"{name} is held")
        self.name = name


class LetGo(NewError):
    """What was under the name is let go, and can't be had back."""

    def __init__(self, name):
        super().__init__(f"{name} is let go")
        self.name = name


class NoSpare(NewError):
    """The ring can't be gone round without a spare name."""

    def __init__(self, ring):
        super().__init__(f"no spare name for the ring {ring}")
        self.ring = ring


class NoRow(NewError):
    """The row of this number, counted from 0, can't stand."""

    def __init__(self, row):
        super().__init__(f"row {row} can't stand")
        self.row = row
