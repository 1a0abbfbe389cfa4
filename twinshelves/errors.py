"""The refusals: one class for each, none of them below another one."""


class ShelfError(ValueError):
    pass


class NoFile(ShelfError):
    pass


class NoName(ShelfError):
    pass


class NoWords(ShelfError):
    pass


class NoWriting(ShelfError):
    pass
