"""The errors of the package.

No message shows a value: a value may be anything, also one whose text cannot be
made, and creating an error must not fail.
"""


class StuckError(ValueError):
    """The base of all errors of the package."""


class InvalidModes(StuckError):
    """A value is not modes; part is the first word that applies."""

    def __init__(self, part):
        super().__init__("these are not modes")
        self.part = part


class InvalidSystem(StuckError):
    """A value is not a system; part tells which of its entries is wrong."""

    def __init__(self, part):
        super().__init__("this is not a system")
        self.part = part


class InvalidTemplate(StuckError):
    """A template of a system is wrong, as a whole (-1) or at a step."""

    def __init__(self, template, step):
        super().__init__("a template of the system is not as it must be")
        self.template = template
        self.step = step


class InvalidInstances(StuckError):
    """A value is not instances, as a whole (-1) or at an index."""

    def __init__(self, index):
        super().__init__("these are not instances of the system")
        self.index = index


class InvalidSchedule(StuckError):
    """A value is not a schedule, as a whole (-1) or at an index."""

    def __init__(self, index):
        super().__init__("this is not a schedule of the instances")
        self.index = index


class InvalidOwner(StuckError):
    """A value is not an owner."""

    def __init__(self, owner):
        super().__init__("this is not an owner")
        self.owner = owner


class InvalidItem(StuckError):
    """A value is not an item."""

    def __init__(self, item):
        super().__init__("this is not an item")
        self.item = item


class InvalidMode(StuckError):
    """A value is none of the modes."""

    def __init__(self, mode):
        super().__init__("this is none of the modes")
        self.mode = mode


class InvalidText(StuckError):
    """A text is not the text of a system, as a whole (-1) or at a row."""

    def __init__(self, place):
        super().__init__("this is not the text of a system")
        self.place = place


class InvalidLimits(StuckError):
    """A value is not limits, as a whole (-1) or at an index."""

    def __init__(self, index):
        super().__init__("these are not limits of the system")
        self.index = index


class InvalidPrices(StuckError):
    """A value is not prices; name tells which of them is wrong."""

    def __init__(self, name):
        super().__init__("these are not prices")
        self.name = name


class InvalidNumber(StuckError):
    """The argument called name is not as it must be."""

    def __init__(self, name):
        super().__init__("an argument is not as it must be")
        self.name = name


class Waiting(StuckError):
    """An owner that waits does nothing else."""

    def __init__(self, owner):
        super().__init__("this owner waits")
        self.owner = owner


class NotHeld(StuckError):
    """An owner does not hold the item."""

    def __init__(self, item):
        super().__init__("this item is not held")
        self.item = item


class Mismatch(StuckError):
    """The argument called name does not go with the others or with the task."""

    def __init__(self, name):
        super().__init__("an argument does not fit")
        self.name = name


class TooLarge(StuckError):
    """What was passed goes beyond the limit."""

    def __init__(self, limit):
        super().__init__("this is more than can be looked at")
        self.limit = limit
