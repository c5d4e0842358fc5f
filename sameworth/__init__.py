"""Sameworth: same worths reckoned once."""
