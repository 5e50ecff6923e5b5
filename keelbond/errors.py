"""The refusals, each straight under KeelError, so that no handler of one takes another.

Each is called by its class in small letters, as the desk answers it.
"""


class KeelError(ValueError):
    def called(self):
        return "keelerror"


class BadPart(KeelError):
    def called(self):
        return "badpart"


class Overdrawn(KeelError):
    def __init__(self, heap):
        KeelError.__init__(self, "the load of a heap is above its worth")
        self.heap = heap

    def called(self):
        return "overdrawn"


class BadName(KeelError):
    def called(self):
        return "badname"


class NoShip(KeelError):
    def called(self):
        return "noship"


class AtSea(KeelError):
    def called(self):
        return "atsea"


class AtHome(KeelError):
    def called(self):
        return "athome"


class Full(KeelError):
    def called(self):
        return "full"


class Crowded(KeelError):
    def called(self):
        return "crowded"


class BadWorth(KeelError):
    def called(self):
        return "badworth"


class BadLot(KeelError):
    def called(self):
        return "badlot"


class Laden(KeelError):
    def called(self):
        return "laden"


class BadDays(KeelError):
    def called(self):
        return "baddays"


class BadSum(KeelError):
    def called(self):
        return "badsum"


class BadGain(KeelError):
    def called(self):
        return "badgain"


class BadHeap(KeelError):
    def called(self):
        return "badheap"


class Worthless(KeelError):
    def called(self):
        return "worthless"


class BadFund(KeelError):
    def called(self):
        return "badfund"


class NoClaim(KeelError):
    def called(self):
        return "noclaim"


class NotHired(KeelError):
    def called(self):
        return "nothired"


class NoBack(KeelError):
    def called(self):
        return "noback"


class BadText(KeelError):
    def __init__(self, at):
        KeelError.__init__(self, "the text is not so written")
        self.at = at

    def called(self):
        return "badtext"
