"""Links: an end of a wire, which comes up with the other end, hands pieces over, and tells of silence."""

from stormpost.cells import FREE_PLACES, sealed
from stormpost.errors import BadPiece, NoLink
from stormpost.fates import quiet_of
from stormpost.fields import SIGNS, is_sign
from stormpost.mending import mended
from stormpost.signs import number_signs, signs_number

LONGEST_PIECE = 10

# What a cell tells, by its places: the giver's birth, the other end's as the giver
# knows it (or NO_BIRTH), the number of the piece on offer, the count of pieces
# taken, the piece's length (0 for none), the piece, and noughts.
BIRTH_SIGNS = 2
KNOWN_AT = 2
NUMBER_AT = 4
COUNT_AT = 5
LENGTH_AT = 6
PIECE_AT = 7
NO_BIRTH = 0


def look_piece(piece):
    if not 1 <= len(piece) <= LONGEST_PIECE:
        raise BadPiece(f"a piece has 1 to {LONGEST_PIECE} signs")
    for sign in piece:
        if not is_sign(sign):
            raise BadPiece(f"{sign} is no sign")


class LinkEnd:
    def __init__(self, measure, side):
        self.quiet = quiet_of(measure)
        self.side = side
        self.done = 0
        self.unheard = 0
        self.birth = 1
        self.known = NO_BIRTH
        self.pair = None
        self.told = []
        self.forget_pieces()

    def forget_pieces(self):
        self.pieces = []
        # Numbers and counts of pieces are kept by their rests, as cells tell them.
        # No cell is on its way for longer than a few ticks, in which no more than
        # a few pieces are taken: so no two of these numbers are taken for one another.
        self.offered = 0
        self.taken = 0

    def tick(self, cells):
        """Takes in the cells that came, and tells the one that is given."""
        tried = [mended(cell) for cell in cells]
        readable = [cell for cell in tried if cell is not None]
        for cell in readable:
            self.read(cell)
        self.unheard = 0 if readable else self.unheard + 1
        if self.known != NO_BIRTH and self.unheard >= self.quiet:
            self.start_over()
        self.done += 1
        return self.cell_given()

    def cell_given(self):
        piece = self.pieces[0] if self.pieces else []
        births = number_signs(self.birth, BIRTH_SIGNS) + number_signs(self.known, BIRTH_SIGNS)
        signs = births + [self.offered, self.taken, len(piece)] + piece
        return sealed(signs + [0] * (FREE_PLACES - len(signs)))

    def read(self, cell):
        birth = signs_number(cell[:KNOWN_AT])
        # A late cell, given ahead of one that told a greater birth.
        if birth < self.known:
            return
        self.meet(birth)
        # Else what it tells of pieces is of another pair.
        if signs_number(cell[KNOWN_AT:NUMBER_AT]) == self.birth:
            self.come_up()
            self.hear_count(cell[COUNT_AT])
            self.take_piece(cell[NUMBER_AT], cell[PIECE_AT:PIECE_AT + cell[LENGTH_AT]])

    def meet(self, birth):
        if self.pair is not None and birth > self.known:
            self.told.append(("anew", self.pair))
            self.end_up()
        self.known = birth

    def come_up(self):
        if self.pair is None:
            self.pair = (self.birth, self.known) if self.side == 0 else (self.known, self.birth)
            self.told.append(("up", self.pair))

    def end_up(self):
        self.pair = None
        self.forget_pieces()

    def start_over(self):
        """A new birth, since nothing was heard for as long as no kept measure lets be."""
        if self.pair is not None:
            self.told.append(("silent", self.pair, self.done - self.quiet + 1, self.done))
            self.end_up()
        self.birth += 1
        self.known = NO_BIRTH

    def hear_count(self, count):
        """Goes on to the next piece where the count tells that the one on offer was taken."""
        following = (self.offered + 1) % SIGNS
        if self.pieces and count == following:
            self.pieces.pop(0)
            self.offered = following

    def take_piece(self, number, piece):
        if piece and number == self.taken:
            self.told.append(("took", piece))
            self.taken = (self.taken + 1) % SIGNS

    def put(self, piece):
        if self.pair is None:
            raise NoLink("this end is not up")
        look_piece(piece)
        self.pieces.append(list(piece))

    def up(self):
        """The pair, or None."""
        return self.pair

    def waits(self):
        """How many pieces were put and are not known to be taken."""
        return len(self.pieces)

    def events(self):
        """Those since it was asked last, as a list."""
        told = self.told
        self.told = []
        return told
