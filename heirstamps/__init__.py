"""Copies that fork and meet, and what their stamps can tell."""
