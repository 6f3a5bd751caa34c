"""Fullbelts: how few rooms a program needs when results stand on belts."""
