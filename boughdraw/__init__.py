"""Boughdraw: trees drawn on paper."""
