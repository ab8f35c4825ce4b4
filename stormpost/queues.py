"""Queues: letters that wait for a wire and go over it piece by piece."""

from stormpost.letters import letter_signs, pieces_of


def matter_of(letter):
    """Origin, goal, kind and about: of these one letter at most waits."""
    way = letter[1]
    return (way[0], way[-1], letter[2], letter[3])


def place_of(letters, matter):
    """The place of the letter with this matter, or None."""
    for place, letter in enumerate(letters):
        if matter_of(letter) == matter:
            return place
    return None


def put_among(letters, letter):
    """Puts the letter last, or, where one of its matter waits, the newer of both in that one's place."""
    place = place_of(letters, matter_of(letter))
    if place is None:
        letters.append(letter)
    elif letter[0] > letters[place][0]:
        letters[place] = letter


class Queue:
    def __init__(self):
        self.make_empty()

    def make_empty(self):
        # The letter of which a piece was given counts only while pieces of it are left.
        self.begun = None
        self.pieces = []
        self.hurried = []
        self.unhurried = []

    def put(self, letter):
        put_among(self.hurried if letter[2] == "news" else self.unhurried, letter)

    def begin_next(self):
        """Takes the next letter from those that wait, if there is one."""
        letters = self.hurried if self.hurried else self.unhurried
        if letters:
            self.begun = letters.pop(0)
            self.pieces = pieces_of(letter_signs(self.begun))

    def next_piece(self):
        """The piece that is to go next, or None."""
        if not self.pieces:
            self.begin_next()
        return self.pieces.pop(0) if self.pieces else None

    def waiting(self):
        """The letters of which not all pieces were given, in the order to come."""
        begun = [self.begun] if self.pieces else []
        return begun + self.hurried + self.unhurried

    def clear(self):
        """Empties the queue, and tells the letters that waited."""
        letters = self.waiting()
        self.make_empty()
        return letters
