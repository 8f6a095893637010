"""Selfcrossed: closed lines that cross themselves, told by rows of letters."""
