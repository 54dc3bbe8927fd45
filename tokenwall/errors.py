"""The refusals: one class for each, all of them under TokenError."""


class TokenError(ValueError):
    pass


class NoNet(TokenError):
    pass


class NoHoard(TokenError):
    pass


class NoMove(TokenError):
    pass


class NoPlace(TokenError):
    pass


class Endless(TokenError):
    pass


class TooBig(TokenError):
    pass


class NoText(TokenError):
    pass


class Stuck(TokenError):
    def __init__(self, at):
        TokenError.__init__(self, f"the move at {at} of the run can't be made")
        self.at = at
