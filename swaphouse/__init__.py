"""Swaphouse: exchanges of things of one's own, with papers."""
