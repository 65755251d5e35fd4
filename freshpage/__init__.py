"""Freshpage: a page viewer whose page is at every moment that of a fresh load."""
