"""Jostle: rows of deeds of which some may change places."""
