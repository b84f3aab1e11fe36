"""The tests of the package threeways."""
