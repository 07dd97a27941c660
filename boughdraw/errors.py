"""The refusals of the program, all under DrawError and none under another one."""


class DrawError(ValueError):
    pass


class NoTree(DrawError):
    pass


class NoNode(DrawError):
    pass


class NoText(DrawError):
    pass


class NoPicture(DrawError):
    pass


class TooMany(DrawError):
    pass


class NoDeed(DrawError):
    pass


class NoPlace(DrawError):
    pass
