"""Lagworks: boxes wired with lags, told by books of equations."""
