"""The errors that the package raises."""


class OrderError(ValueError):
    """What all errors of the package derive from."""


class BadWeb(OrderError):
    """A web that cannot be: the part is "many", "befores" or "ring"."""

    def __init__(self, part):
        self.part = part


class NoName(OrderError):
    """What should be a name is none."""


class NoLot(OrderError):
    """What should be a lot is none."""


class NoNames(OrderError):
    """What should be all names, each once, is not."""


class TooMany(OrderError):
    """More names or orders than the most that are allowed."""

    def __init__(self, most):
        self.most = most


class NoBefore(OrderError):
    """What should be a before cannot be one, or is none."""


class NoNumber(OrderError):
    """There is nothing with such a number."""


class NoOrder(OrderError):
    """What should be an order is none."""


class NoPlace(OrderError):
    """What should be a place is none."""


class NoWay(OrderError):
    """What should be a way of drawing is none."""


class NoRow(OrderError):
    """What should be a row of some names is none."""


class NoCalling(OrderError):
    """What should be a calling is none."""


class NoTerm(OrderError):
    """What should be a term is none."""


class NoTickets(OrderError):
    """What should be tickets are none."""


class NoBook(OrderError):
    """What should be a book is none."""


class NoTree(OrderError):
    """What should be a tree of asks has not the form of one."""


class NoSort(OrderError):
    """What should be a sort of webs is none."""


class NothingDone(OrderError):
    """There is nothing to take back."""


class BadDrawer(OrderError):
    """A drawer returned no tickets for a row."""

    def __init__(self, row):
        self.row = row


class BadText(OrderError):
    """A text has not the form, from this line, place or word on."""

    def __init__(self, line):
        self.line = line


class NoLine(OrderError):
    """What was told to a desk is no line of its forms."""


class NoKept(OrderError):
    """Nothing is kept under this name."""

    def __init__(self, name):
        self.name = name


class BadAsker(OrderError):
    """An asker returned no pair of names that are apart by these befores."""

    def __init__(self, befores):
        self.befores = befores


class NoPrices(OrderError):
    """What should be prices are none."""


class NoRows(OrderError):
    """What should be rows of the same names are none."""


class NoWord(OrderError):
    """What should be a word for a sort of changes is none."""
