"""The errors of the package. Those with an argument keep it as `at`."""


class StopError(ValueError):
    """What all errors of the package are."""


class InvalidServices(StopError):
    """The service at this index cannot stand there."""

    def __init__(self, at):
        self.at = at


class InvalidRule(StopError):
    """The rule at this index is none about the services."""

    def __init__(self, at):
        self.at = at


class InvalidText(StopError):
    """The line at this index has no form that is told."""

    def __init__(self, at):
        self.at = at


class InvalidState(StopError):
    """The state with this number is no lot of services."""

    def __init__(self, at):
        self.at = at


class NotAllowed(StopError):
    """The state with this number is forbidden by a rule."""

    def __init__(self, at):
        self.at = at


class InvalidPlan(StopError):
    """The entry of a plan at this index is no allowed state."""

    def __init__(self, at):
        self.at = at


class InvalidBatches(StopError):
    """The batch, or the slot, at this index is wrong."""

    def __init__(self, at):
        self.at = at


class InvalidCost(StopError):
    """The row of a cost at this index is wrong."""

    def __init__(self, at):
        self.at = at


class InvalidPrices(StopError):
    """The argument of prices with this number is wrong."""

    def __init__(self, at):
        self.at = at


class InvalidQuestion(StopError):
    """The argument with this number cannot be asked about."""

    def __init__(self, at):
        self.at = at


class NotBendable(StopError):
    """A plan cannot be bent, or the rulebook is not bendable."""


class Refused(StopError):
    """The thing at this index does not fit what was asked for."""

    def __init__(self, at):
        self.at = at


class InvalidCommand(StopError):
    """A command has none of the forms that are told."""
