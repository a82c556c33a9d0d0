"""The refusals. Each kind stands straight under TestError, so that one may be taken without the others."""


class TestError(ValueError):
    pass


class BadBook(TestError):
    pass


class BadStrength(TestError):
    pass


class BadTests(TestError):
    def __init__(self, at):
        TestError.__init__(self, f"no test of the book at place {at}")
        self.at = at


class BadNumber(TestError):
    pass


class BadResults(TestError):
    pass


class TooBig(TestError):
    pass


class BadText(TestError):
    pass
