"""Rulehouse: rules, what follows from them, and what does not."""
