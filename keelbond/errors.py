"""The refusals, each straight under KeelError, so that no handler of one takes another."""


class KeelError(ValueError):
    pass


class BadPart(KeelError):
    pass


class Overdrawn(KeelError):
    def __init__(self, heap):
        KeelError.__init__(self, "the load of a heap is above its worth")
        self.heap = heap


class BadName(KeelError):
    pass


class NoShip(KeelError):
    pass


class AtSea(KeelError):
    pass


class AtHome(KeelError):
    pass


class Full(KeelError):
    pass


class Crowded(KeelError):
    pass


class BadWorth(KeelError):
    pass


class BadLot(KeelError):
    pass


class Laden(KeelError):
    pass


class BadDays(KeelError):
    pass


class BadSum(KeelError):
    pass


class BadGain(KeelError):
    pass


class BadHeap(KeelError):
    pass


class Worthless(KeelError):
    pass


class BadFund(KeelError):
    pass


class NoClaim(KeelError):
    pass


class NotHired(KeelError):
    pass


class NoBack(KeelError):
    pass


class BadText(KeelError):
    def __init__(self, at):
        KeelError.__init__(self, "the text is not so written")
        self.at = at
