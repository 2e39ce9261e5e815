"""Leastahead: how many letters ahead a converter must read."""
