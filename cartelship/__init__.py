"""Cartelship: men exchanged by rank, and who may serve again."""
