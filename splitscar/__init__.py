"""Splitscar: an index store whose pages are evidence."""
