"""The refusals: one class each under ForgeError, none of them under another one."""


class ForgeError(ValueError):
    pass


class NoOver(ForgeError):
    pass


class NoPrime(ForgeError):
    pass


class NoPower(ForgeError):
    pass


class Nought(ForgeError):
    pass


class HasParts(ForgeError):
    pass


class BadLift(ForgeError):
    pass


class BadProduct(ForgeError):
    pass


class BadAsk(ForgeError):
    pass


class BadText(ForgeError):
    def __init__(self, place):
        ForgeError.__init__(self, f"the text can be read as far as place {place} and no farther")
        self.place = place
