"""Treestacks: texts with a gap, trees put into trees and kinds with stacks, with papers."""
