"""Compasshall: drawings by ruler and ring, with exact places."""
