import importlib
import inspect
import unittest

from wordskips.best import best
from wordskips.costs import costs
from wordskips.duels import lead
from wordskips.knowledge import Turn, turns
from wordskips.makers import made
from wordskips.means import means
from wordskips.often import often
from wordskips.ratios import Ratio
from wordskips.rings import best_ring
from wordskips.runs import trace
from wordskips.searchers import Searcher
from wordskips.thrift import thrift
from wordskips.verdicts import verdict
from wordskips.weaves import Weave, far

FUNCTIONS = {
    "words": {"check_words": ["letters", "words"], "wanted": ["letters", "words", "text", "wish"],
              "fits": ["known", "word", "offset"], "slid": ["known", "by"]},
    "makers": {"made": ["letters", "word", "way"]},
    "runs": {"trace": ["searcher", "text"]},
    "weaves": {"far": ["searcher", "weave"]},
    "rings": {"best_ring": ["edges"], "longest": ["edges", "first"]},
    "knowledge": {"turns": ["searcher", "standing"], "standings": ["searcher"]},
    "verdicts": {"verdict": ["searcher", "words", "wish"], "is_right": ["right"], "is_wrong": ["wrong"],
                 "how_wrong": ["wrong"]},
    "costs": {"costs": ["searcher"]},
    "means": {"means": ["searcher"]},
    "often": {"often": ["searcher"]},
    "duels": {"joints": ["one", "other"], "rounds": ["one", "other", "joint"], "lasts": ["one", "other", "joint"],
              "lead": ["one", "other"], "is_lead": ["one", "other", "lead"], "other_places": ["one", "other"]},
    "best": {"best": ["letters", "words", "order", "behind"], "room": ["searcher", "words"]},
    "thrift": {"partials": ["letters", "words"], "moves": ["letters", "words", "partial", "place"],
               "thrift": ["letters", "words"], "is_thrift": ["letters", "words", "thrift"]},
}
CLASSES = {
    "searchers": {"Searcher": ["letters", "width", "states"]},
    "weaves": {"Weave": ["letters", "rules", "root"]},
    "ratios": {"Ratio": ["number", "over"]},
    "verdicts": {"Right": ["searcher", "words", "wish", "rows"], "Wrong": ["searcher", "words", "wish", "text"]},
    "duels": {"Lead": ["pace", "heights", "front", "ring", "most", "tops", "text"]},
    "thrift": {"Thrift": ["mean", "heights", "choices", "searcher"]},
}


def objects():
    """Each object of the interface, with the attributes and the methods that are listed for its class."""
    searcher = made("ab", "ab", "plain")
    weave = Weave("ab", {"X": [("ab", 9)]}, "X")
    return [
        (searcher, ["letters", "width", "states", "nodes"], ["__eq__", "least", "written", "read"]),
        (trace(searcher, "ab"), ["windows", "told", "cost"], []),
        (weave, ["letters", "size"], ["letter", "part"]),
        (far(searcher, weave), ["cost", "windows", "told"], ["told_at"]),
        (Ratio(1), ["number", "over"], ["__add__", "__radd__", "__sub__", "__rsub__", "__mul__", "__rmul__", "__neg__",
                                        "__abs__", "__eq__", "is_less", "divided", "__str__"]),
        (best_ring([("x", 1, 1, "x")]), ["ratio", "numbers", "heights"], []),
        (turns(searcher, (0, "..."))[0], ["reads", "tells", "known", "slide", "after"], ["is_cut"]),
        (verdict(searcher, ["ab"]), ["searcher", "words", "wish", "rows"], []),
        (verdict(searcher, ["aa"]), ["searcher", "words", "wish", "text"], []),
        (costs(searcher), ["dearest", "front", "ring", "heights", "extra"], ["worst", "slowest"]),
        (means(searcher), ["mean", "gains", "heights"], ["mean_of"]),
        (often(searcher), ["most", "text", "place"], []),
        (lead(searcher, searcher), ["pace", "heights", "front", "ring", "most", "tops", "text"], []),
        (thrift("ab", ["ab"]), ["mean", "heights", "choices", "searcher"], []),
    ]


class Interface(unittest.TestCase):

    def test_names_and_arguments(self):
        for table, is_kind in ((FUNCTIONS, inspect.isfunction), (CLASSES, inspect.isclass)):
            for module, names in table.items():
                for name, arguments in names.items():
                    thing = getattr(importlib.import_module(f"wordskips.{module}"), name)
                    self.assertTrue(is_kind(thing))
                    self.assertEqual(thing.__module__, f"wordskips.{module}")
                    self.assertEqual(list(inspect.signature(thing).parameters), arguments)

    def test_attributes_and_methods(self):
        for thing, attributes, methods in objects():
            for name in attributes:
                self.assertIn(name, vars(thing))
            for name in methods:
                self.assertIn(name, vars(thing.__class__))

    def test_modules_of_the_classes(self):
        modules = ["searchers", "runs", "weaves", "weaves", "ratios", "rings", "knowledge", "verdicts", "verdicts",
                   "costs", "means", "often", "duels", "thrift"]
        names = ["Searcher", "Trace", "Weave", "Far", "Ratio", "BestRing", "Turn", "Right", "Wrong",
                 "Costs", "Means", "Often", "Lead", "Thrift"]
        self.assertEqual(len(objects()), len(names))
        for (thing, _, _), module, name in zip(objects(), modules, names):
            self.assertEqual((thing.__class__.__module__, thing.__class__.__name__), (f"wordskips.{module}", name))
        self.assertEqual(inspect.signature(Searcher.read).parameters.keys(), {"text"})

    def test_values_that_are_filled_in(self):
        for call, name, value in ((verdict, "wish", "all"), (best, "behind", False), (Ratio, "over", 1)):
            self.assertEqual(inspect.signature(call).parameters[name].default, value)
        self.assertIsInstance(Turn.is_cut, property)


if __name__ == "__main__":
    unittest.main()
