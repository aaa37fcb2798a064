"""The refusals: one class for each kind, all of them under TreeError alone."""


class TreeError(ValueError):
    """Any refusal."""


class NoPath(TreeError):
    """What stands for a path is none."""


class NoText(TreeError):
    """What stands for a text is none."""


class NoTree(TreeError):
    """What stands for a tree is none."""


class NoLayer(TreeError):
    """What stands for a layer is none."""


class NoStack(TreeError):
    """What stands for a stack is none."""


class NoHandle(TreeError):
    """What stands for a handle is none, or is shut."""


class NoPower(TreeError):
    """What stands for power is none."""


class Root(TreeError):
    """This cannot be done to the root."""


class NotThere(TreeError):
    """Nothing is at the path."""


class NoDrawer(TreeError):
    """There is no drawer where one is needed."""


class IsDrawer(TreeError):
    """A drawer is where a file is needed."""


class Taken(TreeError):
    """Something is where nothing may be."""


class NotEmpty(TreeError):
    """The drawer is not empty."""


class Within(TreeError):
    """The new path is within the old one."""


class TooLong(TreeError):
    """A text or a path would be too long."""


class Full(TreeError):
    """There would be too many paths."""


class Dark(TreeError):
    """There is no power."""
