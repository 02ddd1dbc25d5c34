"""Fewcolours: many colours told by few."""
