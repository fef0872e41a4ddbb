"""What any object may be that is no function."""

from swaphouse.alike import Steps
from swaphouse.errors import SwapError
from swaphouse.markets import Market
from swaphouse.notices import Notice
from swaphouse.sessions import Session


def is_no_function(thing):
    """Whether an object is one of the kinds that are no functions."""
    if thing is None or isinstance(thing, (int, str, list, tuple, dict)):
        return True
    return isinstance(thing, (Market, Notice, Session, Steps, SwapError))
