"""Farclocks: readings of several clocks, and letters between them."""
