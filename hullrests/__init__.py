"""Hullrests: how a log floats at every heel."""
