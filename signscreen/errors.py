"""The refusals: one class each, all straight under ScreenError."""


class ScreenError(ValueError):
    pass


class BadPicture(ScreenError):
    pass


class BadSize(ScreenError):
    pass


class BadInk(ScreenError):
    pass


class BadPaper(ScreenError):
    pass


class Unlike(ScreenError):
    pass
