"""Lampwatch: lights whose rows of light and dark come round and round."""
