"""Veiledchains: hidden chains, in whole numbers and exact fractions."""
