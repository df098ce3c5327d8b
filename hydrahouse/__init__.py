"""Hydrahouse: numbers beyond all counting, and what falls."""
