"""Pages, queries and shelves by a seed, and the plain reading of what a query means."""

from fractions import Fraction

from blocksearch.pages import Page
from blocksearch.segments import Segment


def some_page(chance, number, letters="abcd", most=10):
    many = chance.randrange(most + 1)
    return Page(number, " ".join(chance.choice(letters) for _ in range(many)))


def some_pages(chance, many, letters="abcd", most=10, top=9999):
    """So many pages of unlike numbers, in no order."""
    return [some_page(chance, number, letters, most) for number in chance.sample(range(1, top + 1), many)]


def some_query(chance, letters="abcd", deep=5, room=12):
    """A query of at most so many queries deep, with at most so many words."""
    kinds = ["word"] + ["phrase", "near"] * (room > 1) + ["and", "or", "but"] * (deep > 1 and room > 1)
    kind = chance.choice(kinds)
    if kind == "word":
        return ("word", chance.choice(letters))
    if kind == "phrase":
        return ("phrase", *[chance.choice(letters) for _ in range(chance.randrange(2, min(room, 5) + 1))])
    if kind == "near":
        return ("near", chance.choice([1, 1, 2, 3, 20]), chance.choice(letters), chance.choice(letters))
    many = 2 if kind == "but" else chance.randrange(2, min(room, 4) + 1)
    parts = []
    for left in range(many, 0, -1):
        part = some_query(chance, letters, deep - 1, max(1, (room - left + 1) // (1 if left == 1 else 2)))
        room -= words_in_all(part)
        parts.append(part)
    return (kind, *parts)


def words_in_all(query):
    if query[0] in ("and", "or", "but"):
        return sum(words_in_all(part) for part in query[1:])
    return {"word": 1, "near": 2}.get(query[0], len(query) - 1)


def deepness(query):
    if query[0] in ("and", "or", "but"):
        return 1 + max(deepness(part) for part in query[1:])
    return 1


def some_shelf(chance, most_segments=4, most_pages=12, letters="abcd", most=10, top=9999):
    """A shelf, and the list of the pages that stand on it; numbers of gone pages may stand elsewhere."""
    shelf, stands, taken = [], [], set()
    for _ in range(chance.randrange(most_segments + 1)):
        pages = some_pages(chance, chance.randrange(1, most_pages + 1), letters, most, top)
        pages.sort(key=lambda page: page.number)
        gone = [slot for slot, page in enumerate(pages) if page.number in taken or chance.randrange(4) == 0]
        kept = [page for slot, page in enumerate(pages) if slot not in gone]
        taken |= {page.number for page in kept}
        stands += kept
        chance.shuffle(pages)
        shelf.append((Segment(pages, size=chance.randrange(1, 9)), gone))
    return shelf, stands


def places(query, page):
    """What point 14 tells, by the words of the page in turn."""
    words = str(page).split()
    if query[0] == "near":
        far, one, other = query[1:]
        return [(at, to) for at in range(len(words)) for to in range(len(words))
                if at != to and words[at] == one and words[to] == other and max(at, to) - min(at, to) <= far]
    asked = list(query[1:])
    return [at for at in range(len(words)) if words[at:at + len(asked)] == asked]


def matches_plainly(query, page):
    if query[0] == "and":
        return not [part for part in query[1:] if not matches_plainly(part, page)]
    if query[0] == "or":
        return bool([part for part in query[1:] if matches_plainly(part, page)])
    if query[0] == "but":
        return matches_plainly(query[1], page) > matches_plainly(query[2], page)
    return places(query, page) != []


def wanted_plainly(query):
    if query[0] in ("and", "or"):
        return [word for part in query[1:] for word in wanted_plainly(part)]
    if query[0] == "but":
        return wanted_plainly(query[1])
    return list(query[2:] if query[0] == "near" else query[1:])


def standing(shelf):
    """The pages that stand on a shelf, in the order in which they stand there."""
    return [segment.page(slot) for segment, gone in shelf for slot in range(len(segment)) if slot not in gone]


def figures_plainly(pages, word):
    """What point 20 tells of pages that stand: N, L, d."""
    return len(pages), sum(len(page) for page in pages), len([page for page in pages if word in page.words()])


def share_plainly(pages, word, often, length):
    many, words, holders = figures_plainly(pages, word)
    if often == 0 or holders == 0:
        return Fraction(0)
    return Fraction(many + 1, holders) * Fraction(often * words, often * words + words + length * many)


def rank_plainly(pages, query, page):
    words = page.words()
    shares = [share_plainly(pages, word, words.count(word), len(words)) for word in wanted_plainly(query)]
    return sum(shares, Fraction(0))


def best_by_sorting(pages, query, k, among=None):
    """The best as tuples (number, rank): of all pages, or of some of them, by the figures of all."""
    ranked = [(-rank_plainly(pages, query, page), page.number)
              for page in (pages if among is None else among) if matches_plainly(query, page)]
    return [(number, -rank) for rank, number in sorted(ranked)[:k]]


def bound_plainly(pages, query, segment, slot):
    """What point 27 tells of a slot, by the pages of the segment, cut in blocks anew."""
    inside = [segment.page(one) for one in range(len(segment))]
    bounds = Fraction(0)
    for word in wanted_plainly(query):
        slots = [one for one, page in enumerate(inside) if word in page.words()]
        for at in range(0, len(slots), segment.size):
            cut = slots[at:at + segment.size]
            if cut[0] <= slot <= cut[-1]:
                most = max(inside[one].words().count(word) for one in cut)
                bounds += share_plainly(pages, word, most, min(len(inside[one]) for one in cut))
    return bounds
