"""The error classes of Nolunch: one for each kind of failure."""


class MarketplaceError(ValueError):
    """Any failure that the program tells."""


class ZeroDenominator(MarketplaceError):
    """A fraction would have the denominator 0."""


class TextError(MarketplaceError):
    """A text is not the text of what is to be read from it."""


class MarketError(MarketplaceError):
    """Something is not a market, or cannot become one."""


class TooLarge(MarketplaceError):
    """Something is beyond a limit of size."""


class MomentError(MarketplaceError):
    """There is no such moment, or no such good."""


class PlanError(MarketplaceError):
    """Something is not a plan, or does not fit the goods of a market."""


class ProgramError(MarketplaceError):
    """Something is not a linear program."""


class ContractError(MarketplaceError):
    """Something is not a contract for these goods."""


class HistoryError(MarketplaceError):
    """A history does not fit its contract."""


class WayError(MarketplaceError):
    """Something is not a way of a side, or not a side."""


class SureGain(MarketplaceError):
    """A market lets somebody gain surely from nothing."""


class DealError(MarketplaceError):
    """A deal does not exist, or cannot be chosen for so."""


class UnsafeError(MarketplaceError):
    """A book would not be safe."""


class PendingError(MarketplaceError):
    """A book has something else to do first."""


class JournalError(MarketplaceError):
    """A text is not the log of a book."""
