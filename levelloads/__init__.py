"""Loads that can wait: the most level totals, and the shares that make them."""
