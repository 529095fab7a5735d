"""The refusals of the program."""


class NeedError(ValueError):
    pass


class NoText(NeedError):
    pass


class NoShop(NeedError):
    pass


class Ring(NeedError):
    pass


class NoName(NeedError):
    pass


class NoDay(NeedError):
    pass


class NoBuy(NeedError):
    pass


class NoPlan(NeedError):
    pass
