"""Sameface: hidden kinds, known by their faces alone."""
