"""The refusals: one class for each, so that an asker can tell them apart."""


class LotError(ValueError):
    pass


class NoPost(LotError):
    pass


class NoRung(LotError):
    pass


class Unlike(LotError):
    pass


class NoOutcome(LotError):
    pass


class NoStep(LotError):
    pass
