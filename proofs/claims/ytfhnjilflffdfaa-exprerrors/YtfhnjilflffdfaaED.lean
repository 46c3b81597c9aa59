import Derived.Test.YtfhnjilflffdfaaEDk
namespace Go.Proofs.Ytfhnjilflffdfaa
end Go.Proofs.Ytfhnjilflffdfaa
