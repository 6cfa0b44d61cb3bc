/- The ground: see the text G. -/
import Derived.Test.YtiihoffboeomaaaG
namespace Go.Proofs.Ytiihoffboeomaaa
set_option linter.unusedSimpArgs false
set_option linter.unusedVariables false
end Go.Proofs.Ytiihoffboeomaaa
