"""Fitwhatever: parts made within bounds, and whether they go together."""
