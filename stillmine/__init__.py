"""Stillmine: files kept through upgrades."""
