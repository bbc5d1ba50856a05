"""The interface: each name, its arguments and its defaults, and that each method stands in its class itself."""

import importlib
import inspect
import unittest

# For each module its functions and classes, with arguments; a class's methods behind its name and a dot.
INTERFACE = {
    "words": ["is_word(thing)", "words_of(text)", "text_of(words)"],
    "pages": ["Page(number, text='')", "Page.words()", "Page.places(word)", "Page.often(word)"],
    "codes": ["code(number)", "code_all(numbers)", "decode(text)", "code_rising(numbers)", "decode_rising(text)",
              "code_entries(entries)", "decode_entries(text)"],
    "rows": ["Row(word, entries, lengths, *, size=4)", "Row.blocks()", "Row.entries()"],
    "walkers": ["Walker(row)", "Walker.slot()", "Walker.step()", "Walker.seek(slot)", "Walker.places()", "Walker.block()",
                "Walker.block_at(slot)", "Walker.glance(slots)", "Walker.opened()", "common(rows)", "either(rows)",
                "without(row, other)"],
    "queries": ["is_query(thing)", "wanted(query)"],
    "meaning": ["matches(query, page)", "places_of(query, page)"],
    "querytexts": ["show(query)", "read(text)"],
    "segments": ["Segment(pages, *, size=4)", "Segment.numbers()", "Segment.lengths()", "Segment.words()",
                 "Segment.row(word)", "Segment.slot_of(number)", "Segment.page(slot)"],
    "ratios": ["Ratio(top, bottom=1)", "Ratio.plus(other)", "Ratio.times(other)", "Ratio.is_less(other)", "total(ratios)",
               "greatest(ratios, *, default=None)"],
    "ranks": ["Figures(shelf)", "Figures.holders(word)", "share(figures, word, often, length)",
              "bound(figures, row, block)", "rank(figures, query, page)"],
    "found": ["phrased(rows)", "neared(row, other, *, far=1)", "matching_slots(segment, query)",
              "matching_numbers(shelf, query)"],
    "best": ["Best(k=10)", "Best.put(number, ratio)", "Best.would_hold(number, ratio)", "Best.told()", "Best.floor()",
             "best_plain(pages, query, *, k=10)"],
    "early": ["bound_at(shelf, query, at, slot)", "best_early(shelf, query, *, k=10, seen=None)",
              "holds_best(shelf, thing)"],
    "search": ["Search(shelf, *, seen=None)", "Search.matching(query)", "Search.best(query, *, k=10)",
               "Search.bests(queries, *, k=10)", "Search.log()", "Search.begun()"],
    "store": ["Store(size=4)", "Store.put(page, *, anew=False)", "Store.put_all(pages, *, anew=False)",
              "Store.drop(number)", "Store.seal()", "Store.merge(*, at=0, many=2)", "Store.shelf()", "Store.numbers()",
              "Store.in_hand()", "Store.sealed()", "Store.page(number)", "Store.log(*, last=5)"],
    "files": ["whole_text(rows)", "rows_of(text, *, name='')", "segment_rows(segment)", "segment_of(rows, *, name='')"],
    "disk": ["Disk()", "Disk.write(name, text)", "Disk.erase(name)", "Disk.read(name)", "Disk.names()", "Disk.waiting()",
             "Disk.flush()", "Disk.crash(*, picks=())", "Disk.twin()"],
    "commits": ["deeds_of(store, disk)", "play(disk, deed)", "commit(store, disk)", "standing(disk)", "recovered(disk)"],
    "grounds": ["paper_of(query, page)"],
    "looker": ["holds(paper, page)", "are_moves(moves, shelf, segment)"],
    "desk": ["Desk()", "Desk.say(row)"],
}
CONSTANTS = {"rows": {"SIZE": 4}, "best": {"MANY": 10, "MOST": 200},
             "store": {"MOST_PAGES": 120, "MOST_IN_HAND": 60, "MOST_SEALED": 7, "LAST": 5}}
LENGTHS = {"pages": ["Page"], "rows": ["Row", "Block"], "segments": ["Segment"], "best": ["Best"], "store": ["Store"],
           "disk": ["Disk"]}


def module(name):
    return importlib.import_module(f"blocksearch.{name}")


class InterfaceTests(unittest.TestCase):
    def test_names_and_arguments(self):
        for name, rows in INTERFACE.items():
            for row in rows:
                called, _, given = row.partition("(")
                owner, _, method = called.partition(".")
                thing = getattr(module(name), owner)
                if method:
                    self.assertIn(method, vars(thing), row)
                    given = "self, " + given if given != ")" else "self)"
                    thing = vars(thing)[method]
                self.assertEqual(str(inspect.signature(thing)), "(" + given, row)
                self.assertEqual(thing.__module__, f"blocksearch.{name}")

    def test_constants(self):
        for name, values in CONSTANTS.items():
            for constant, value in values.items():
                self.assertEqual(getattr(module(name), constant), value)

    def test_lengths_stand_in_their_classes(self):
        for name, owners in LENGTHS.items():
            for owner in owners:
                self.assertIn("__len__", vars(getattr(module(name), owner)))

    def test_every_module_of_the_document_is_here(self):
        self.assertEqual(len(INTERFACE), 22)


if __name__ == "__main__":
    unittest.main()
