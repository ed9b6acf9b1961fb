"""The errors: what is handed in wrong, and what cannot be done as things stand."""


class LagError(ValueError):
    """What is handed in is wrong."""

    def __init__(self, message, word="LagError"):
        ValueError.__init__(self, message)
        self.word = word


class BadPrime(LagError):
    """A prime that is none."""

    def __init__(self, message):
        LagError.__init__(self, message, "BadPrime")


class BadNumber(LagError):
    """A number that is not from 1 to below the prime."""

    def __init__(self, message):
        LagError.__init__(self, message, "BadNumber")


class BadSum(LagError):
    """A lag sum that is none, or has too many residues."""

    def __init__(self, message):
        LagError.__init__(self, message, "BadSum")


class BadTable(LagError):
    """A table that is none; at is the place of the first bad equation."""

    def __init__(self, message, at):
        LagError.__init__(self, message, "BadTable")
        self.at = at


class BadWidth(LagError):
    """A width, or a number of ends, that is beyond its limits."""

    def __init__(self, message):
        LagError.__init__(self, message, "BadWidth")


class BadEnds(LagError):
    """A list of ends that is none."""

    def __init__(self, message):
        LagError.__init__(self, message, "BadEnds")


class BadText(LagError):
    """A text that is not written as it must be."""

    def __init__(self, message):
        LagError.__init__(self, message, "BadText")


class BadWiring(LagError):
    """A wiring that is none, but for its ends."""

    def __init__(self, message):
        LagError.__init__(self, message, "BadWiring")


class Unshaped(LagError):
    """Parts whose ends do not fit, or too many ends."""

    def __init__(self, message):
        LagError.__init__(self, message, "Unshaped")


class BadSheet(LagError):
    """A sheet that is none; at is the place of the first bad sign."""

    def __init__(self, message, at):
        LagError.__init__(self, message, "BadSheet")
        self.at = at


class BadStart(LagError):
    """Contents that are none of the machine."""

    def __init__(self, message):
        LagError.__init__(self, message, "BadStart")


class BadName(LagError):
    """A name that is none."""

    def __init__(self, message):
        LagError.__init__(self, message, "BadName")


class BadDeed(LagError):
    """A deed that is none."""

    def __init__(self, message):
        LagError.__init__(self, message, "BadDeed")


class BadPage(LagError):
    """A page that is none; row is the number of the first bad row."""

    def __init__(self, message, row):
        LagError.__init__(self, message, "BadPage")
        self.row = row


class NotLed(LagError):
    """Chosen ends that do not lead; why is "bound" or "loose"."""

    def __init__(self, message, why):
        LagError.__init__(self, message, "NotLed")
        self.why = why


class Unlike(LagError):
    """Books whose primes or ends are not alike."""

    def __init__(self, message):
        LagError.__init__(self, message, "Unlike")


class WorksError(LookupError):
    """What is asked cannot be done as things stand."""

    def __init__(self, message, word="WorksError"):
        LookupError.__init__(self, message)
        self.word = word


class NoWiring(WorksError):
    """No wiring has this name."""

    def __init__(self, message, name):
        WorksError.__init__(self, message, "NoWiring")
        self.name = name


class NoWatch(WorksError):
    """No watch has this number."""

    def __init__(self, message, number):
        WorksError.__init__(self, message, "NoWatch")
        self.number = number


class Taken(WorksError):
    """The name has been given already."""

    def __init__(self, message):
        WorksError.__init__(self, message, "Taken")


class Full(WorksError):
    """There is no room for more."""

    def __init__(self, message):
        WorksError.__init__(self, message, "Full")


class Used(WorksError):
    """What is to go is used by another one, told in by."""

    def __init__(self, message, by):
        WorksError.__init__(self, message, "Used")
        self.by = by


class Held(WorksError):
    """What is to change is held as it is by another one, told in by."""

    def __init__(self, message, by):
        WorksError.__init__(self, message, "Held")
        self.by = by


class Stopped(WorksError):
    """The sign may not come: the longer sheet breaks the equation."""

    def __init__(self, message, equation):
        WorksError.__init__(self, message, "Stopped")
        self.equation = equation


class Nothing(WorksError):
    """There is nothing to take back."""

    def __init__(self, message):
        WorksError.__init__(self, message, "Nothing")
