"""Bymarks: where things go by numbers that nobody knows."""
