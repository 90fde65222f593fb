"""Granary: a store whole in small, asked by texts, kept through falls and takeovers."""
