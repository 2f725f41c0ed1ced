"""Lanerules: cars of several lanes before one narrow place."""
