"""The errors of the package."""


class MergeError(ValueError):
    """The base class of all errors of the package."""


class BadWay(MergeError):
    """An argument should be a way, and is not."""


class BadValue(MergeError):
    """An argument should be a value, and is not."""


class BadPromise(MergeError):
    """An argument should be the name of a promise, and is not."""


class BadPromises(MergeError):
    """An argument should be an ascending tuple of different promises, and is not."""


class NotText(MergeError):
    """An argument should be a string, and is not."""


class InvalidText(MergeError):
    """A string should be the text of something, and is not."""


class NotNow(MergeError):
    """A line cannot be carried out as things stand."""


class NothingToUndo(MergeError):
    """There is no line to take back."""


class BadDocument(MergeError):
    """An argument should be a document, and is not.

    The index is that of its first wrong item, None if it is no tuple of the right length.
    """

    def __init__(self, index):
        super().__init__("not a document")
        self.index = index


class BadVersions(MergeError):
    """An argument should be versions, and is not.

    The index is that of its first wrong item, None if it is no tuple of the right length.
    """

    def __init__(self, index):
        super().__init__("not versions")
        self.index = index
