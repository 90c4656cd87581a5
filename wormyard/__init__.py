"""Wormyard: long letters in a yard of lanes."""
