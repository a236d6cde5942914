"""Votesway: councils whose crowds carry or don't."""
