"""Nolothome: steps round wheels no lot of which leads home."""
