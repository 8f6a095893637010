"""The tests of selfcrossed, for `python3 -m unittest`."""
