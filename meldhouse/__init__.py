"""Meldhouse: hands of tiles laid out in runs and groups."""
