"""The looker, who judges papers."""

from tinkerhall.claims import good_claim, good_limit
from tinkerhall.forms import is_count, is_list, is_number
from tinkerhall.news import news_in_force
from tinkerhall.papers import limit_of, lots_of, too_many, with_state


class Looker:
    """Judges papers for a claim on a house as it is when it is called."""

    def __init__(self, house, claim, *, limit=None):
        self.house = house
        self.claim = good_claim(house, claim)
        self.limit = good_limit(house, limit)

    def __call__(self, paper):
        """None if the paper is right, otherwise the way to the first paper in it that is wrong itself."""
        return _wrong_way(news_in_force(self.house), paper, self.first_lots(), limit_of(self.claim, self.limit))

    def first_lots(self):
        """The lots at the beginning."""
        return lots_of(self.house, self.claim)


def _wrong_way(news, paper, lots, limit):
    if not _fits(news, paper, lots, limit):
        return ()
    if paper[0] != "part":
        return None
    _, part, papers = paper
    for at, state in enumerate(lots[part]):
        way = _wrong_way(news, papers[at], with_state(lots, part, state), limit)
        if way is not None:
            return (at, *way)
    return None


def _fits(news, paper, lots, limit):
    """Whether a thing is a paper that is not wrong itself."""
    if not is_list(paper) or len(paper) == 0:
        return False
    if paper[0] == "many":
        return len(paper) == 1 and too_many(lots, limit)
    if paper[0] == "news":
        return len(paper) == 2 and is_count(paper[1]) and paper[1] in news and news[paper[1]].barred(lots)
    if paper[0] != "part" or len(paper) != 3 or not is_number(paper[1], 0, len(lots) - 1):
        return False
    return is_list(paper[2]) and len(paper[2]) == len(lots[paper[1]])
