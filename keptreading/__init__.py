"""Keptreading: a text read by rules, while both change."""
