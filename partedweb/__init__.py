"""Webs of weighted ties, cut so that told places come apart."""
