"""The refusals: each stands straight beneath LetterError, so that one can be taken without another."""


class LetterError(ValueError):
    pass


class NoText(LetterError):
    pass


class NoProgram(LetterError):
    pass


class NoMove(LetterError):
    pass


class NoClaim(LetterError):
    pass


class NoWorlds(LetterError):
    pass


class TooMany(LetterError):
    pass


class NoWitness(LetterError):
    pass
