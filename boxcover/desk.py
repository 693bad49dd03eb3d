"""A desk that is told lines and answers each by a text."""

from boxcover.errors import NoAsk, NoText
from boxcover.heights import fewest_houses, skyline_of
from boxcover.kept import Kept, is_name
from boxcover.line import gaps_of, pieces_of
from boxcover.outlines import hole_sizes, outline_length, outline_of
from boxcover.parts import parting_of
from boxcover.sizes import sizes_often
from boxcover.texts import (
    box_text, houses_text, listed, read_box, read_houses, read_skyline, read_spot, skyline_text, spot_text,
    stretch_text,
)
from boxcover.whose import needless, own_sizes

WAYS_WRITTEN = {"1": 1, "2": 2, "3": 3}


def go_back(kept):
    return str(kept.undo())


def tell_names(kept):
    return listed(kept.names_now())


def tell_size(kept):
    return str(kept.size_now())


def tell_often(kept):
    return listed([str(size) for size in sizes_often(kept.heap_now())])


def tell_most(kept):
    most = kept.most_now()
    return listed([] if most is None else [str(most[0]), spot_text(most[1])])


def tell_own(kept):
    sizes = own_sizes(kept.heap_now())
    return listed([f"{name} {size}" for name, size in zip(kept.names_now(), sizes)])


def tell_needless(kept):
    names = kept.names_now()
    return listed([names[number] for number in needless(kept.heap_now())])


def tell_parting(kept):
    return listed([box_text(box) for box in parting_of(kept.heap_now())])


def tell_pieces(kept):
    return listed([stretch_text(piece) for piece in pieces_of(kept.heap_now())])


def tell_gaps(kept):
    return listed([stretch_text(gap) for gap in gaps_of(kept.heap_now())])


def tell_rounds(kept):
    heap = kept.heap_now()
    return listed([str(len(outline_of(heap))), str(outline_length(heap))])


def tell_holes(kept):
    return listed([str(size) for size in hole_sizes(kept.heap_now())])


def need_name(name):
    if not is_name(name):
        raise NoAsk("a name is one to eight small letters")


def asked_with(read, text):
    try:
        return read(text)
    except NoText:
        raise NoAsk("this writes neither a box nor a spot") from None


def put_in(kept, rest):
    words = rest.partition(" ")
    need_name(words[0])
    box = asked_with(read_box, words[2])
    return str(kept.put_box(words[0], box))


def take_out(kept, rest):
    need_name(rest)
    return str(kept.take_box(rest))


def tell_at(kept, rest):
    spot = asked_with(read_spot, rest)
    return str(kept.often_at(spot))


def tell_sky(kept, rest):
    return skyline_text(skyline_of(read_houses(rest)))


def tell_fewest(kept, rest):
    return houses_text(fewest_houses(read_skyline(rest)))


ALONE = {
    "back": go_back, "names": tell_names, "size": tell_size, "often": tell_often, "most": tell_most, "own": tell_own,
    "needless": tell_needless, "parting": tell_parting, "pieces": tell_pieces, "gaps": tell_gaps,
    "rounds": tell_rounds, "holes": tell_holes,
}
WITH_MORE = {"put": put_in, "take": take_out, "at": tell_at, "sky": tell_sky, "fewest": tell_fewest}


class Desk:
    def __init__(self):
        self.kept = Kept(1)

    def answer(self, line):
        if not isinstance(line, str) or "\n" in line:
            raise NoAsk("a line is a text without a line feed")
        if line in ALONE:
            return ALONE[line](self.kept)
        # With the blank what stands behind it is there, be it nothing; a head alone is none of these lines.
        words = line.partition(" ")
        if words[1] == " " and words[0] in WITH_MORE:
            return WITH_MORE[words[0]](self.kept, words[2])
        if words[0] == "ways" and words[2] in WAYS_WRITTEN:
            self.kept = Kept(WAYS_WRITTEN[words[2]])
            return "ok"
        raise NoAsk("this is none of the lines that the desk is told")
