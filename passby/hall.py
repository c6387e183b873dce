"""The hall: deeds are laid in rounds as they come, and taken back."""

from passby.errors import Nothing
from passby.layers import height_behind, laid


class Hall:
    def __init__(self):
        # A deed's height rests on those ahead of it alone, so it stays as it was told until the deed is taken back.
        self.diary = []
        self.told = []

    def put(self, deed):
        height = height_behind(self.diary, self.told, deed)
        self.diary.append(deed)
        self.told.append(height)
        return height

    def back(self):
        if len(self.diary) == 0:
            raise Nothing("there is no deed in the hall that could be taken back")
        self.told.pop()
        return self.diary.pop()

    def rounds(self):
        return laid(self.diary, self.told)

    def many(self):
        return len(self.diary)
