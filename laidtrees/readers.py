"""Readers: what the handles of a mount read."""


class Reader:
    """Follows a file of the upper layer, or keeps the text of one from below."""

    def __init__(self, number, text, is_upper, stale=False):
        self.number = number
        self.text = text
        self.is_upper = is_upper
        self.stale = stale

    def follow(self, entries, taken):
        """Take note of the entries behind a deed, and of the numbers of the files below that it took up."""
        if not self.is_upper:
            self.stale = self.stale or self.number in taken
            return
        for entry in entries.values():
            if entry[0] == "file" and entry[1] == self.number:
                self.text = entry[2]

    def twin(self):
        """Another reader that stands just so."""
        return Reader(self.number, self.text, self.is_upper, self.stale)
