"""Nearposts: posts so that nobody is far."""
