"""Boughblocks: trees laid in blocks, so that few blocks are read on any way down."""
