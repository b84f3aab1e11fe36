"""A desk with three documents, which lines of text change and show."""

from threeways.documents import GREATEST_COUNT, is_name, merged_documents
from threeways.errors import InvalidText, NothingToUndo, NotNow
from threeways.texts import pairs_text, read_integer, require_text
from threeways.ways import require_way

SIDES = ("base", "mine", "yours")

NOTHING = "none"


class Desk:
    """Three documents, base, mine and yours, that are merged by one way."""

    def __init__(self, way):
        require_way(way)
        self._way = way
        # The documents at first and after each line that returned None: the last ones are those of now.
        self._states = [((), (), ())]

    @property
    def documents(self):
        """The tuple of the three documents."""
        return self._states[-1]

    @property
    def merge(self):
        """The pair of the merge of the three documents and the names that were refused."""
        base, mine, yours = self._states[-1]
        return merged_documents(self._way, base, mine, yours)

    def run(self, line):
        """Carry out a line: return None if it gives a value or takes one out, otherwise the text it asks for."""
        require_text(line)
        words = line.split(" ")
        if len(words) == 3:
            self._states.append(changed_documents(self.documents, words))
            return None
        return self.answer(line)

    def undo(self):
        """Take back the last line that returned None."""
        if len(self._states) == 1:
            raise NothingToUndo("no line to take back")
        self._states.pop()

    def answer(self, line):
        """Return the text that a line of one word asks for."""
        if line in SIDES:
            return pairs_text(self.documents[SIDES.index(line)])
        if line == "merge":
            return pairs_text(self.merge[0])
        if line == "refused":
            return " ".join(self.merge[1]) or NOTHING
        raise InvalidText("not a line that a desk knows")


def changed_documents(documents, words):
    """Return three documents with the change that the three words of a line ask for."""
    side, name, word = words
    integer = read_integer(word)
    if side not in SIDES or not is_name(name) or (integer is None and word != NOTHING):
        raise InvalidText("not a line that a desk knows")
    index = SIDES.index(side)
    changed = changed_document(documents[index], name, integer)
    return documents[:index] + (changed,) + documents[index + 1:]


def changed_document(document, name, integer):
    """Return a document with an integer given to a name, or with the name taken out for None."""
    integers = dict(document)
    integers[name] = integer
    changed = tuple([(other, integers[other]) for other in sorted(integers) if integers[other] is not None])
    if len(changed) > GREATEST_COUNT:
        raise NotNow("a document has no place for a thirteenth name")
    return changed
