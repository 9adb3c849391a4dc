"""The errors that the program raises, one class for each kind of failure."""


class RefreshError(ValueError):
    """The base of all errors of this program."""


class BadNetwork(RefreshError):
    """Something is not a network; `part` says which part of it is wrong."""

    def __init__(self, part=None):
        super().__init__("not a network")
        self.part = part


class BadNumber(RefreshError):
    """A horizon or a tick is not an integer within its limits."""


class BadWorld(RefreshError):
    """Something is not a world for the network and the horizon."""


class BadPlan(RefreshError):
    """Something is not a plan, or not a refresh that fits the plan."""


class BadQuery(RefreshError):
    """Something is not a query, a list of queries, a question, or the name of a node."""


class NotSufficient(RefreshError):
    """A plan leaves some query beyond its tolerance."""


class TooLarge(RefreshError):
    """The arguments are beyond the sizes for which an answer is computed."""


class BadRecords(RefreshError):
    """Something is not the records of the sources of a network."""


class BadSituation(RefreshError):
    """Something is not a situation of the network."""


class BadChoice(RefreshError):
    """Something is not a choice of different sources of the network, in their order."""


class BadValues(RefreshError):
    """Something does not give possible values to sources of the network."""


class BadText(RefreshError):
    """A text cannot be read; `row` is the index of the line at fault."""

    def __init__(self, row=0):
        super().__init__("not a text in the written form")
        self.row = row


class BadCommand(RefreshError):
    """Something is not a command of a bench."""


class BadName(RefreshError):
    """The name of a task is not a name, or not new or not in use as required."""
