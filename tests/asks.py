"""All calls of the interface, for the tests of errors and of calls; tests/forms.py tells what an Ask is."""

from tests.asks_desks import desks_asks
from tests.asks_families import families_asks
from tests.asks_nets import world_asks
from tests.asks_pairs import pairs_asks
from tests.asks_trees import trees_asks


def all_asks():
    return world_asks() + families_asks() + pairs_asks() + trees_asks() + desks_asks()
