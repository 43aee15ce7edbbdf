"""Bothsure: two ends that must decide alike under a rule of loss."""
