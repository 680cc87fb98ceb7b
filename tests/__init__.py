"""The tests of wholeconic; README.md tells how to run them."""
