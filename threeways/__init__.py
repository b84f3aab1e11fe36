"""Threeways: what three-way merges can promise."""
