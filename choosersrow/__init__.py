"""Choosersrow: choosing in turn with aims of any kind."""
