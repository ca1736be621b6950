"""Joinshelf: runs on a shelf, and what their joining surely costs."""
