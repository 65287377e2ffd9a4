import PyProof.Rows.All
import Wide.All
import OpenK.AllK
import Wide.FinOn
import HandS.Defaults
import HandS.Head0
import HandS.Head1
import HandS.Head2
import HandS.HeadEnd
import HandS.HeadHook1
import HandS.HeadHook2
import PyProof.StrLawsRepr
import PyProof.EqAt
import PyProof.EqKinds
import PyProof.TupleCall
import PyProof.ReprRoads
import KE.KExcIs
import HandS.ForMost
import HandS.Exc
import HandS.ExcInit
import HandS.ExcValue
import HandS.IsInst
import HandS.WordsExc
import HandS.SlotsOwn
import HandS.MakeKw
import HandS.MakeKwOnly
import KE.KCallOwn
import KE.KFmtOwn
import PyProof.Rows.StrMul
import KE.GoesEnum
import HandS.IterVal
import KE.KOwnIter
import HandS.RaiseMore
import HandS.More
import HandS.HeadHook3
import HandS.FStr
import HandS.ClsMeth
import HandS.Codes
import Wide.Once
import KE.KOpsOwn
import HandS.Star
import HandS.Property
import HandS.ExcOwn
import PyProof.ListMulRoad
import HandS.EndTab
import HandS.HeadWalk
import HandS.HeadNt
import KE.SortKeyHeap
import HandS.SortKw
import HandS.SetBool
import HandS.Strs
import HandS.SetKeys
import HandS.TupAny
import OpenK.KMeth
import HandS.Style
import HandS.Text
import PyProof.CodeObjX
import HandS.Comp
import HandS.Sort
import PyProof.ListRange
import KE.KWithOwn
import HandS.HotCalls
import HandS.Finally
import HandS.RaiseOp
import HandS.ExcBuiltin
import HandS.TryOnly
import HandS.SortInts
import PySem.Challenge.RW_twoheads_k09_rows_settled_and_tried
set_option Elab.async false
set_option linter.all false
set_option maxRecDepth 100000
set_option maxHeartbeats 8000000
/-! Tw, part 1: calls where no repr runs around; errors as values; errors kept behind their except suite. -/
namespace Tw
open PySem PySem.Spec PyProof.Rows L2

/-! ### no repr is running around -/
abbrev NoG (A : Around) : Prop := A.guards = some []
structure FnG (P : Program) (w : World) (K : PySem.W.Frag) (mg : Str → Option Value) (base : Heap) (CX : CXT) (k : Nat) (f : Addr) (fd : FuncData) (ps : List Str) (sp : Sp) : Prop where
  len : ∀ vs H Q E, sp vs H Q E → vs.length = ps.length
  run : ∀ (A : Around) (outer : List Env) (s : Shared) (H : Hp) (args : Args) (us : List Value) (vs : List V) (Q : VK) (E : XK), Room k A → NoG A → Env0 P w K mg base A outer s H →
    BindsTo s fd args (ps.zip us) → Vals vs us → sp vs H Q E → codeAny (model P w) A (.call (.ref f) args) (CR CX outer P w H s Q E) s
section
variable {P : Program} {w : World} {K : PySem.W.Frag} {mg : Str → Option Value} {base : Heap} {CX : CXT}
theorem FnG.of {k : Nat} {f : Addr} {fd : FuncData} {ps : List Str} {sp : Sp} (F : FnOk P w K mg base CX k f fd ps sp) : FnG P w K mg base CX k f fd ps sp :=
  ⟨F.len, fun A outer s H args us vs Q E hr _ => F.run A outer s H args us vs Q E hr⟩
theorem FnG.mono {j k : Nat} {f : Addr} {fd : FuncData} {ps : List Str} {sp : Sp} (F : FnG P w K mg base CX j f fd ps sp) (h : j ≤ k) : FnG P w K mg base CX k f fd ps sp :=
  ⟨F.len, fun A outer s H args us vs Q E hr => F.run A outer s H args us vs Q E (hr.mono h)⟩
/-- a def by its body, where no repr runs around -/
theorem fng {k : Nat} {f : Addr} {name qual : Str} {params : Arguments} {body : List Stmt} {scope : Scope} {dV kV doc pm cdv ct oc : Value} {an od : Option Addr} {osl : Array (Option Value)} {N ps : List Str} {sp : Sp}
    (lk : K.lookup f = some ⟨oc, od, .func (PySem.W.fnOf name qual params body scope dV kV doc pm an cdv ct), osl⟩) (hcd : PySem.W.codeIn K cdv qual = true) (S : FnScope N ps scope) (len : ∀ vs H Q E, sp vs H Q E → vs.length = ps.length)
    (hbody : ∀ (A : Around) (outer : List Env) (s : Shared) (H : Hp) (vs : List V) (Q : VK) (E : XK), Room k (A.deeper (envOfC qual scope s.heap.objs.size f cdv)) → NoG (A.deeper (envOfC qual scope s.heap.objs.size f cdv)) → sp vs H Q E →
      ∃ t, PSs (cxOf CX P w K mg base N qual scope f cdv A outer s H E) body t ∧ t { nx := fun _ H' => Q .non H', rt := Q } (start N vs) H) :
    FnG P w K mg base CX (k + 1) f (PySem.W.fnOf name qual params body scope dV kV doc pm an cdv ct) ps sp := by
  refine ⟨len, fun A outer s H args us vs Q E hr hg e0 hb r hsp => ?_⟩
  have at0 : ∀ b o, base.get? b = some o → s.heap.get? b = some o := fun b o e => (e0.bs b o e).1
  have hkind : ∀ y ∈ ps.zip us, scope.names.lookup y.1 = some .local ∨ (scope.names.lookup y.1 = some .cell ∧ ((cellsFrom (s.heap.objs.size + 1) scope.names []).lookup y.1).isSome = true) := by
    rintro ⟨n, v⟩ hy
    rcases S.par n (List.of_mem_zip hy).1 with q | q
    · exact .inl q
    · exact .inr ⟨q, PySem.W.cellsFrom_some _ _ _ (.inl q)⟩
  refine codeAny_call_function hr.depth ((e0.mod.kin.keeps at0) _ _ lk) rfl S.co S.gen rfl (PySem.W.codeRec_of (e0.mod.kin.keeps at0) hcd) (hb _ _ _ _ ?_)
  refine wpAny_newFunctionEnv_cells S.kind hkind fun env he s1 x => ?_
  subst he
  refine ⟨(e0.mod.nolimit.keeps at0).keeps x.toInCall.keep, codeAny_func ?_⟩
  obtain ⟨t, ht, hq⟩ := hbody A outer s H vs Q E (hr.deeper _) hg hsp
  refine wpAny_mono (ht.run [] s1 (start N vs) H _ (inv_start S hr.hd e0 (len _ _ _ _ hsp) r x) hq) (fun fl s' hs => ?_) fun e s' hs => hs
  cases fl with
  | ret u =>
    obtain ⟨v, σ', H', J, rv, q⟩ := hs
    exact ⟨v, H', J.os, J.bare, J.base, J.hok, rv, q⟩
  | next =>
    obtain ⟨σ', H', J, q⟩ := hs
    exact ⟨.non, H', J.os, J.bare, J.base, J.hok, rfl, q⟩
  | brk => exact hs.elim fun _ z => z.elim fun _ z => z.2.elim
  | cont => exact hs.elim fun _ z => z.elim fun _ z => z.2.elim
/-- the same for a def as the text has it -/
theorem _root_.L2.Fun.okG {x qual : Str} {st : Stmt} {f : Addr} {fd : FuncData} {N ps : List Str} {k : Nat} {sp : Sp} (F : Fun K x qual st f fd) (S : FnScope N ps (defScope st)) (len : ∀ vs H Q E, sp vs H Q E → vs.length = ps.length)
    (hbody : ∀ (cdv : Value) (A : Around) (outer : List Env) (s : Shared) (H : Hp) (vs : List V) (Q : VK) (E : XK), Room k (A.deeper (envOfC qual (defScope st) s.heap.objs.size f cdv)) → NoG (A.deeper (envOfC qual (defScope st) s.heap.objs.size f cdv)) → sp vs H Q E →
      ∃ t, PSs (cxOf CX0 P w K mg base N qual (defScope st) f cdv A outer s H E).nox (defBody st) t ∧ t { nx := fun _ H' => Q .non H', rt := Q } (start N vs) H) : FnG P w K mg base CX0 (k + 1) f fd ps sp := by
  obtain ⟨oc, od, kV, doc, pm, an, cdv, ct, osl, rfl, lk, hcd⟩ := F.ex
  refine fng lk hcd S len fun A outer s H vs Q E hr hg hsp => ?_
  obtain ⟨t, h, q⟩ := hbody cdv A outer s H vs Q E hr hg hsp
  exact ⟨t, h.nox, q⟩
end
section
variable {X : Cx} {CX : CXT} {k : Nat} {f : Addr} {fd : FuncData} {ps : List Str} {sp : Sp} {dvs : List V} {ds : List Value} {E : XK} {x : Str} {p pos : Pos} {e : Expr} {es : List Expr} {t : TA}
theorem run_fnG {pins : List (Addr × Obj)} {σ : L2.St} {H : Hp} {s : Shared} {Q : VK} {us : List Value} {vs : List V} (F : FnG X.prog X.w X.K X.mg X.base CX k f fd ps sp) (hr : Room k X.A) (hG : NoG X.A) (hb : Binds X.K fd ps ds) (hd : Vals dvs ds) (hx : Passes CX X E)
    (I : Inv X pins σ H s) (r : Vals vs us) (h : sp (vs ++ dvs) H Q E) : wpAny (model X.prog X.w) X.A (call (.ref f) us) (EP X pins σ Q) X.xe s := by
  have r2 : Vals (vs ++ dvs) (us ++ ds) := r.append hd
  have hl : (us ++ ds).length = ps.length := r2.length.symm.trans (F.len _ _ _ _ h)
  refine wpAny_call (codeAny_mono (F.run X.A X.stack s H ⟨us, []⟩ (us ++ ds) (vs ++ dvs) Q E hr hG I.env0 (hb s us I.kIn hl) r2 h) fun r s' hq => ?_)
  match r, hq with
  | .error e, hq => exact hx pins σ H s e s' I hq
  | .ok (.ret u), hq => exact I.after hq
/-- f(e, ..) -/
theorem pe_callG (F : FnG X.prog X.w X.K X.mg X.base CX k f fd ps sp) (hr : Room k X.A) (hG : NoG X.A) (hg : Gl X x) (hm : X.mg x = some (.ref f)) (hk : PySem.W.keepIn X.K (.ref f) = true) (hb : Binds X.K fd ps ds) (hd : Vals dvs ds) (hx : Passes CX X E)
    (ha : PA X (e :: es) t) (hdb : (x == ("__debug__" : Str)) = false := by decide) (he : starEach (e :: es) X.env = (false, eval e X.env) :: starEach es X.env := by rfl) (hpl : (backTo pos (starEach es X.env)).any (·.1) = false := by rfl) :
    PE X (.Call (.Name x p) (e :: es) [] pos) (tCall sp dvs E t) :=
  ⟨fun pins s σ H Q I h => wpAny_Call_Name_kw (ld_glob I hg hm (PySem.W.callWith_K (h₀ := X.base) I.ok.mod.kin hk (thn (ha.run pos pins s σ H _ I h) fun us s1 ⟨vs, H1, I1, r, q⟩ => ⟨I1.kIn, run_fnG F hr hG hb hd hx I1 r q⟩) he hpl) hdb)⟩
end
end Tw

/-! ### the law's end -/
namespace Tw
open PySem PySem.Spec PyProof.Rows L2
theorem law_endG {P : Program} {w : World} {K : PySem.W.Frag} {mg mb : Str → Option Value} {CX : CXT} {k : Nat} {fa a : Addr} {fd : FuncData} {x : Str} {sp : Sp} {s : Shared} {vs : List Value} {ns : List Int}
    (KX : K.In s.heap) (hns : s.heap.Ns mainGlobals mg) (hb : s.heap.Ns builtinsNs mb) (hbb : ∀ x : Str, x ≠ "__name__" → mb x = bootBuiltins x) (hlim : s.heap.NoLimit) (hg : s.gens = #[])
    (ha : s.heap.get? a = some { cls := .type "list", data := .seq vs.toArray }) (hi : IntsAre vs ns) (hl : ns.length ≤ sizeLine) (hr : Room k callerA)
    (F : ∀ base : Heap, K.In base → base.Ns mainGlobals mg → FnG P w K mg base CX k fa fd [x] sp) (hbind : ∀ (s : Shared) (u : Value), BindsTo s fd ⟨[u], []⟩ [(x, u)])
    (hsp : ∀ H : Hp, Only H → SqL K H a (ns.map V.int) → sp [.ref a] H (fun v _ => v = .bl true) fun _ _ _ => False)
    (hCX : ∀ H e s', CX [] H s (fun _ _ _ => False) e s' → False) :
    codeAny (model P w) callerA (.call (.ref fa) ⟨[.ref a], []⟩) (fun r s' => r = .ok (.ret (.bool true)) ∧ OldK s.heap s'.heap ∧ s'.os = s.os ∧ AllBare s'.gens) s := by
  have rv := vals_ints hi
  have lv := hi.length
  have go : ∀ H : Hp, Only H → SqL K H a (ns.map V.int) → HOk P w H s.heap → (∀ b, H b ≠ none → b = a) → (H a ≠ none → K.lookup a = none) →
      codeAny (model P w) callerA (.call (.ref fa) ⟨[.ref a], []⟩) (fun r s' => r = .ok (.ret (.bool true)) ∧ OldK s.heap s'.heap ∧ s'.os = s.os ∧ AllBare s'.gens) s := by
    intro H hO hS hok hA hK
    have none_of : ∀ {b : Addr}, b ≠ a → H b = none := fun {b} hb => by
      cases q : H b with
      | none => rfl
      | some u => exact absurd (hA b (by rw [q]; exact Option.some_ne_none u)) hb
    have noD : ∀ {b : Addr} {o : Obj} {es : Array DictEntry} {ep : Nat}, s.heap.get? b = some o → o.data = .dict es ep → H b = none := fun {b o es ep} e d => none_of fun z => by
      rw [z, ha] at e
      have e2 := Option.some.inj e
      rw [← e2] at d
      cases d
    have nsK : ∀ {b : Addr} {m : Str → Option Value}, s.heap.Ns b m → (hidT s.heap H).Ns b m := fun {b m} ⟨o, es, ep, e, d, r⟩ => ⟨o, es, ep, hidT_get e (noD e d), d, r⟩
    have hKb : K.In (hidT s.heap H) := fun b o e => hidT_get (KX b o e) (by
      by_cases hb : b = a
      · cases q : H b with
        | none => rfl
        | some u =>
          subst hb
          have z := hK (by rw [q]; exact Option.some_ne_none u)
          rw [z] at e
          cases e
      · exact none_of hb)
    have hM : Mod K mg (hidT s.heap H) := ⟨hKb, nsK hns, ⟨mb, nsK hb, hbb⟩, hlim.elim fun mc z => ⟨mc, nsK z.1, z.2⟩⟩
    have e0 : Env0 P w K mg (hidT s.heap H) callerA [] s H := ⟨rfl, hM, fun b o e => of_hidT e, Nat.le_of_eq (hidT_size _ _), trivial, (fun b hb => nomatch hb), hok, .of_eq hg⟩
    refine codeAny_mono ((F _ hKb (nsK hns)).run callerA [] s H ⟨[.ref a], []⟩ [.ref a] [.ref a] _ _ hr rfl e0 (hbind s (.ref a)) (.cons rfl .nil) (hsp H hO hS)) fun r s' h => ?_
    match r, h with
    | .error e, h => exact (hCX H e s' h).elim
    | .ok (.ret u), h =>
      obtain ⟨v, H', os, bare, un, hok', rv', q⟩ := h
      have q' : v = .bl true := q
      subst q'
      obtain rfl : u = Value.bool true := rv'
      refine ⟨rfl, OldK.of_keep fun b o e => ?_, os, bare⟩
      cases q : H b with
      | none => exact un.keep b o e q (fun z => nomatch z) (fun z => nomatch z)
      | some u =>
        rcases hO b with z | ⟨ob, xs, z⟩
        · rw [q] at z
          cases z
        · obtain ⟨e1, _⟩ := hok b _ z
          obtain ⟨e2, _⟩ := hok' b _ (un.frzs b ob _ z)
          rw [e] at e1
          cases e1
          exact e2
  cases hk : K.lookup a with
  | some o =>
    have e := KX a o hk
    rw [ha] at e
    cases e
    exact go (fun _ => none) (fun _ => .inl rfl) (.inr ⟨_, vs.toArray, _, hk, rfl, rfl, rfl, by rw [List.size_toArray, lv]; exact hl, by simpa using rv⟩) (fun b u z => nomatch z) (fun b z => absurd rfl z) fun z => absurd rfl z
  | none =>
    have at1 : (fun b => if b = a then some (HO.frz { cls := .type "list", data := .seq vs.toArray } (.lst (ns.map V.int))) else none : Hp) a = some (HO.frz { cls := .type "list", data := .seq vs.toArray } (.lst (ns.map V.int))) := if_pos rfl
    refine go (fun b => if b = a then some (.frz { cls := .type "list", data := .seq vs.toArray } (.lst (ns.map V.int))) else none) (fun b => ?_) (.inl (.inr ⟨_, at1⟩)) (fun b u z => ?_) (fun b z => ?_) fun _ => hk
    · by_cases hb : b = a
      · exact .inr ⟨_, _, if_pos hb⟩
      · exact .inl (if_neg hb)
    · by_cases hb : b = a
      · subst hb
        rw [at1] at z
        cases z
        exact ⟨ha, by rw [List.length_map]; exact hl, vs, _, rv, ha⟩
      · have z' := (if_neg hb).symm.trans z
        cases z'
    · by_cases hb : b = a
      · exact hb
      · exact absurd (if_neg hb) z
theorem walk_ofG {l : PySem.W.OpenLaw} {n k : Nat} {q : Program} {loose : List Str} {XP : (Str → Option Value) → Heap → Prop} {YP : World → Heap → Prop} {d : DefRec} {K : Params → PySem.W.Frag} {CX : World → CXT} {sp : World → Sp} {x : Str}
    (hn : l.most = some n) (hn2 : n ≤ sizeLine) (hdf : d.params.defaults = []) (hr : Room k callerA) (hY : ∀ (w : World) (h : Heap), YP w h → (K w.params).In h)
    (F : ∀ (w : World) (mg : Str → Option Value) (fa : Addr) (h : Heap), (K w.params).In h → h.Ns mainGlobals mg → mg d.name = some (.ref fa) →
      ∃ fd : FuncData, (∀ (s : Shared) (u : Value), BindsTo s fd ⟨[u], []⟩ [(x, u)]) ∧ ∀ base : Heap, (K w.params).In base → base.Ns mainGlobals mg → FnG l.prog w (K w.params) mg base (CX w) k fa fd [x] (sp w))
    (hsp : ∀ (w : World) (H : Hp) (a : Addr) (ns : List Int), ns.length ≤ n → Only H → SqL (K w.params) H a (ns.map V.int) → sp w [.ref a] H (fun v _ => v = .bl true) fun _ _ _ => False)
    (hCX : ∀ (w : World) (H : Hp) (s : Shared) (e : Value) (s' : Shared), CX w [] H s (fun _ _ _ => False) e s' → False) :
    PySem.W.WalkO q loose XP YP l.row.toRowW d [] (fun f vs => PySem.call f vs) := by
  refine Att.attach_call hn hdf fun w s₀ s₁ mg mb fa o pm cd doc a vs ns G Y ho hd hcd hmg hobj hints hlen hg => ?_
  obtain ⟨fd, hb, hF⟩ := F w mg fa _ (hY w _ Y) G.T.g hmg
  exact law_endG (hY w _ Y) G.T.g G.T.b G.T.builtins G.T.nolimit hg hobj hints (Nat.le_trans hlen hn2) hr hF hb (fun H hO hS => hsp w H a ns hlen hO hS) fun H e s' => hCX w H s₁ e s'
end Tw
/-! Tw, part 2: repr of data. -/
namespace Tw
open PySem PySem.Spec PyProof.Rows L2

/-! ### how long a repr may be -/
mutual
def cap : PyData → Nat
  | .none => 4
  | .bool _ => 5
  | .int _ => 1921
  | .str x => 10 * x.length + 2
  | .list xs => 2 + capAll xs
  | .tuple xs => 3 + capAll xs
  | .dict kvs => 2 + capKv kvs
def capAll : List PyData → Nat
  | [] => 0
  | x :: xs => cap x + 2 + capAll xs
def capKv : List (PyData × PyData) → Nat
  | [] => 0
  | (k, v) :: r => cap k + 4 + cap v + capKv r
end
mutual
/-- ints of moderate size, texts of plain signs -/
def mild : PyData → Bool
  | .none | .bool _ => true
  | .int i => decide (i.natAbs.log2 < 1920)
  | .str x => x.cps.toList.all fun c => decide (c < 16 ^ 8)
  | .list xs | .tuple xs => mildAll xs
  | .dict kvs => mildKv kvs
def mildAll : List PyData → Bool
  | [] => true
  | x :: xs => mild x && mildAll xs
def mildKv : List (PyData × PyData) → Bool
  | [] => true
  | (k, v) :: r => mild k && (mild v && mildKv r)
end
mutual
theorem mild_show : ∀ d : PyData, mild d = true → d.showable = true
  | .none, _ => rfl
  | .bool _, _ => rfl
  | .str _, _ => rfl
  | .int i, h => by simpa [mild, PyData.showable] using h
  | .list xs, h => by
    simp only [PyData.showable]
    exact mild_showAll xs (by simpa [mild] using h)
  | .tuple xs, h => by
    simp only [PyData.showable]
    exact mild_showAll xs (by simpa [mild] using h)
  | .dict kvs, h => by
    simp only [PyData.showable]
    exact mild_showKv kvs (by simpa [mild] using h)
theorem mild_showAll : ∀ xs : List PyData, mildAll xs = true → PyData.showableAll xs = true
  | [], _ => rfl
  | x :: xs, h => by
    have h2 := Bool.and_eq_true_iff.mp (show (mild x && mildAll xs) = true by simpa [mildAll] using h)
    simp only [PyData.showableAll, mild_show x h2.1, mild_showAll xs h2.2, Bool.and_self]
theorem mild_showKv : ∀ kvs : List (PyData × PyData), mildKv kvs = true → PyData.showableKv kvs = true
  | [], _ => rfl
  | (k, v) :: r, h => by
    have h2 := Bool.and_eq_true_iff.mp (show (mild k && (mild v && mildKv r)) = true by simpa [mildKv] using h)
    have h3 := Bool.and_eq_true_iff.mp h2.2
    simp only [PyData.showableKv, mild_show k h2.1, mild_show v h3.1, mild_showKv r h3.2, Bool.and_self]
end
theorem textFrom_le : ∀ (ts : List Str) (k : Nat) (acc : Str), (textFrom k acc ts).length ≤ acc.length + piled ts
  | [], k, acc => by
    show acc.length ≤ acc.length + _
    omega
  | t :: r, k, acc => by
    have ih := textFrom_le r (k + 1) (acc ++ (if k > 0 then ", " else "" : String) ++ t)
    rw [piled_cons]
    show (textFrom (k + 1) (acc ++ (if k > 0 then ", " else "" : String) ++ t) r).length ≤ _
    rw [strLen_append, strLen_append] at ih
    have e : (Str.ofString (if k > 0 then ", " else "" : String)).length ≤ 2 := by
      by_cases hk : k > 0
      · rw [if_pos hk]; decide
      · rw [if_neg hk]; decide
    have e' : ((if k > 0 then ", " else "" : String) : Str).length ≤ 2 := e
    omega
theorem join_le (ts : List Str) : (Str.join ", " ts).length ≤ piled ts := by
  by_cases h : ts = []
  · subst h
    decide
  · have := join_length_add ts h
    omega
theorem piled_le : ∀ (xs : List PyData) (ts : List Str), ts.length = xs.length → (∀ (i : Nat) (x : PyData) (t : Str), xs[i]? = some x → ts[i]? = some t → t.length ≤ cap x) → piled ts ≤ capAll xs
  | [], [], _, _ => Nat.le_refl _
  | x :: xs, t :: ts, hl, h => by
    have h1 := h 0 x t rfl rfl
    have h2 := piled_le xs ts (by simpa using hl) fun i y u e1 e2 => h (i + 1) y u (by simpa using e1) (by simpa using e2)
    rw [piled_cons]
    simp only [capAll]
    omega
  | [], _ :: _, hl, _ => by simp at hl
  | _ :: _, [], hl, _ => by simp at hl
mutual
theorem shown_le : ∀ d : PyData, mild d = true → d.shown.length ≤ cap d
  | .none, _ => by simp only [PyData.shown, cap]; decide
  | .bool b, _ => by
    simp only [PyData.shown, cap]
    cases b <;> decide
  | .int i, h => by
    have h2 : i.natAbs.log2 < 1920 := by simpa [mild] using h
    have e := int_text_length_le (a := i) (k := 1920) (by decide) h2
    simp only [PyData.shown, cap]
    show (Str.ofString (toString i)).length ≤ 1921
    rw [PySem.ofString_length]
    exact e
  | .str x, h => by
    simp only [PyData.shown, cap]
    exact PySem.StrLaws.reprText_len x fun c hc => of_decide_eq_true (List.all_eq_true.mp (show (x.cps.toList.all fun c => decide (c < 16 ^ 8)) = true by simpa [mild] using h) c hc)
  | .list xs, h => by
    have h2 := shownAll_le xs (by simpa [mild] using h)
    simp only [PyData.shown, cap]
    have e := textFrom_le (PyData.shownAll xs) 0 "["
    unfold listText
    rw [strLen_append]
    have e1 : ("[" : Str).length = 1 := by decide
    have e2 : ("]" : Str).length = 1 := by decide
    omega
  | .tuple xs, h => by
    have h2 := shownAll_le xs (by simpa [mild] using h)
    simp only [PyData.shown, cap]
    have e := join_le (PyData.shownAll xs)
    unfold tupleText
    rw [strLen_append, strLen_append]
    have e1 : ("(" : Str).length = 1 := by decide
    have e2 : ((if (PyData.shownAll xs).length == 1 then ",)" else ")" : String) : Str).length ≤ 2 := by
      cases (PyData.shownAll xs).length == 1 <;> decide
    omega
  | .dict kvs, h => by
    have h2 := shownKv_le kvs (by simpa [mild] using h)
    simp only [PyData.shown, cap]
    have e := join_le (PyData.shownKv kvs)
    unfold dictText
    rw [strLen_append, strLen_append]
    have e1 : ("{" : Str).length = 1 := by decide
    have e2 : ("}" : Str).length = 1 := by decide
    omega
theorem shownAll_le : ∀ xs : List PyData, mildAll xs = true → piled (PyData.shownAll xs) ≤ capAll xs
  | [], _ => by simp only [PyData.shownAll, capAll]; decide
  | x :: xs, h => by
    have h2 := Bool.and_eq_true_iff.mp (show (mild x && mildAll xs) = true by simpa [mildAll] using h)
    have a := shown_le x h2.1
    have b := shownAll_le xs h2.2
    simp only [PyData.shownAll, capAll, piled_cons]
    omega
theorem shownKv_le : ∀ kvs : List (PyData × PyData), mildKv kvs = true → piled (PyData.shownKv kvs) ≤ capKv kvs
  | [], _ => by simp only [PyData.shownKv, capKv]; decide
  | (k, v) :: r, h => by
    have h2 := Bool.and_eq_true_iff.mp (show (mild k && (mild v && mildKv r)) = true by simpa [mildKv] using h)
    have h3 := Bool.and_eq_true_iff.mp h2.2
    have a := shown_le k h2.1
    have b := shown_le v h3.1
    have c := shownKv_le r h3.2
    simp only [PyData.shownKv, capKv, piled_cons]
    rw [strLen_append, strLen_append]
    have e1 : (": " : Str).length = 2 := by decide
    omega
end

/-! ### data in the abstract heap, with flat dicts -/
def keyD : Key → PyData
  | .inl i => .int i
  | .inr x => .str x
mutual
inductive Dx (K : PySem.W.Frag) (H : Hp) : V → PyData → Prop
  | non : Dx K H .non .none
  | bl (b : Bool) : Dx K H (.bl b) (.bool b)
  | int (i : Int) : Dx K H (.int i) (.int i)
  | str (x : Str) : Dx K H (.str x) (.str x)
  | lst {a : Addr} {xs : List V} {ds : List PyData} : SqL K H a xs → a ≠ sysModules → DxAll K H xs ds → Dx K H (.ref a) (.list ds)
  | tup {a : Addr} {xs : List V} {ds : List PyData} : SqT K H a xs → DxAll K H xs ds → Dx K H (.ref a) (.tuple ds)
  | dic {a : Addr} {kvs : List (Key × V)} {ds : List PyData} : H a = some (.dK kvs) → DxAll K H (kvs.map (·.2)) ds → Dx K H (.ref a) (.dict ((kvs.map fun p => keyD p.1).zip ds))
inductive DxAll (K : PySem.W.Frag) (H : Hp) : List V → List PyData → Prop
  | nil : DxAll K H [] []
  | cons {v : V} {vs : List V} {d : PyData} {ds : List PyData} : Dx K H v d → DxAll K H vs ds → DxAll K H (v :: vs) (d :: ds)
end
section
variable {X : Cx} {pins : List (Addr × Obj)} {σ : L2.St} {H : Hp} {s : Shared}
theorem DxAll.len : ∀ {vs : List V} {ds : List PyData}, DxAll X.K H vs ds → vs.length = ds.length
  | [], _, .nil => rfl
  | _ :: _, _, .cons _ t => by
    have := DxAll.len t
    simp [this]
theorem readsAll_keys {h : Heap} : ∀ {kvs : List (Key × V)} {ws : List (Key × Value)} {es : List DictEntry}, KV kvs ws → Pairs (mixKind X.prog X.w) es ws → ReadsAll h (es.map (·.key)) (kvs.map fun p => keyD p.1) []
  | [], _, _, .nil, .nil => .nil
  | (k, v) :: kvs, (k', u) :: ws, e :: es, .cons r t, .cons a b q => by
    obtain ⟨r1, r2⟩ := r
    have ih := readsAll_keys (h := h) t q
    have hk : keyIs k' e.key = true := a
    have r1' : k = k' := r1
    subst r1'
    rcases keyIs_shape hk with ⟨i, tk, e1, e2⟩ | ⟨x, tk, e1, e2⟩
    · subst e1
      show ReadsAll h (e.key :: es.map (·.key)) (PyData.int i :: _) ([] ++ [])
      rw [e2]
      exact .cons (.int i tk) ih
    · subst e1
      show ReadsAll h (e.key :: es.map (·.key)) (PyData.str x :: _) ([] ++ [])
      rw [e2]
      exact .cons (.str x tk) ih
theorem vals_of_pairs : ∀ {kvs : List (Key × V)} {ws : List (Key × Value)} {es : List DictEntry}, KV kvs ws → Pairs (mixKind X.prog X.w) es ws → Vals (kvs.map (·.2)) (es.map (·.val))
  | [], _, _, .nil, .nil => .nil
  | (k, v) :: kvs, (k', u) :: ws, e :: es, .cons r t, .cons a b q => by
    obtain ⟨r1, r2⟩ := r
    refine .cons ?_ (vals_of_pairs t q)
    have b' : e.val = u := b
    show RelV v e.val
    rw [b']
    exact r2
theorem map_fst_zip' {α β : Type} : ∀ {l : List α} {m : List β}, l.length = m.length → (l.zip m).map (·.1) = l
  | [], [], _ => rfl
  | _ :: l, _ :: m, h => by
    have := map_fst_zip' (l := l) (m := m) (by simpa using h)
    simp [this]
  | [], _ :: _, h => by simp at h
  | _ :: _, [], h => by simp at h
theorem map_snd_zip' {α β : Type} : ∀ {l : List α} {m : List β}, l.length = m.length → (l.zip m).map (·.2) = m
  | [], [], _ => rfl
  | _ :: l, _ :: m, h => by
    have := map_snd_zip' (l := l) (m := m) (by simpa using h)
    simp [this]
  | [], _ :: _, h => by simp at h
  | _ :: _, [], h => by simp at h
mutual
theorem Dx.reads (I : Inv X pins σ H s) : ∀ {v : V} {d : PyData} {u : Value}, Dx X.K H v d → RelV v u → ∃ as, Reads s.heap u d as ∧ sysModules ∉ as
  | _, _, _, .non, r => by
    cases r
    exact ⟨_, Reads.none, fun z => nomatch z⟩
  | _, _, _, .bl b, r => by
    cases r
    exact ⟨_, Reads.bool b, fun z => nomatch z⟩
  | _, _, _, .int i, r => by
    obtain ⟨t, rfl⟩ := r
    exact ⟨_, Reads.int i t, fun z => nomatch z⟩
  | _, _, _, .str x, r => by
    obtain ⟨t, rfl⟩ := r
    exact ⟨_, Reads.str x t, fun z => nomatch z⟩
  | _, _, _, .lst (a := a) hs hne ha, r => by
    cases r
    obtain ⟨its, rv, ⟨o, n, ho, hc, _, hd⟩, _⟩ := I.list hs
    obtain ⟨as, hr, hn⟩ := DxAll.reads I ha rv
    refine ⟨_, Reads.list ho hc hd hr, fun z => ?_⟩
    rcases List.mem_cons.mp z with z | z
    · exact hne z.symm
    · exact hn z
  | _, _, _, .tup hs ha, r => by
    cases r
    obtain ⟨its, rv, ⟨o, ho, hc, n, hd⟩, _⟩ := I.tuple hs
    obtain ⟨as, hr, hn⟩ := DxAll.reads I ha rv
    exact ⟨_, Reads.tuple ho hc hd hr, hn⟩
  | _, _, _, .dic (kvs := kvs) hs ha, r => by
    cases r
    obtain ⟨_, hsys, ws, hkv, o, es, ep, ho, hx, hd, _, hp, _⟩ := I.hok _ _ hs
    have hl := DxAll.len (X := X) ha
    have rv := vals_of_pairs (X := X) hkv hp
    obtain ⟨as, hr, hn⟩ := DxAll.reads I ha rv
    have hk := readsAll_keys (h := s.heap) hkv hp
    refine ⟨_, Reads.dict ho hx.1 hd (as := []) (bs := as) (by rw [map_fst_zip' (by rw [List.length_map, ← hl, List.length_map])]; exact hk) (by rw [map_snd_zip' (by rw [List.length_map, ← hl, List.length_map])]; exact hr), fun z => ?_⟩
    rcases List.mem_cons.mp (by simpa using z) with z | z
    · rw [← z] at hsys
      simp at hsys
    · exact hn z
theorem DxAll.reads (I : Inv X pins σ H s) : ∀ {vs : List V} {ds : List PyData} {us : List Value}, DxAll X.K H vs ds → Vals vs us → ∃ as, ReadsAll s.heap us ds as ∧ sysModules ∉ as
  | _, _, _, .nil, .nil => ⟨_, .nil, fun z => nomatch z⟩
  | _, _, _, .cons h t, .cons r q => by
    obtain ⟨as, h1, n1⟩ := Dx.reads I h r
    obtain ⟨bs, h2, n2⟩ := DxAll.reads I t q
    exact ⟨_, .cons h1 h2, fun z => (List.mem_append.mp z).elim n1 n2⟩
end
end
end Tw

/-! ### the rules -/
namespace Tw
open PySem PySem.Spec PyProof.Rows L2
theorem boot_repr : bootBuiltins "repr" = some (.builtin "repr") := by decide +kernel
section
variable {X : Cx}
/-- repr(x), x a list or a tuple of data -/
def rRepr (K : PySem.W.Frag) : List V → Hp → VK → Prop := fun xs H Q => ∃ (a : Addr) (d : PyData), xs = [.ref a] ∧ Dx K H (.ref a) d ∧ mild d = true ∧ d.depth ≤ 64 ∧ cap d ≤ 16777216 ∧ Q (.str d.shown) H
theorem call_repr (hG : NoG X.A) (hu : X.A.units + 70 < cLine) : CallR X (.builtin "repr") (rRepr X.K) := by
  intro pins s σ H xs us Q I r h
  obtain ⟨a, d, rfl, hd, hm, hdp, hc, q⟩ := h
  obtain ⟨u, rfl, ru⟩ := vals1 r
  obtain ⟨as, hr, hn⟩ := Dx.reads I hd ru
  cases (show u = Value.ref a from ru)
  exact repr_of_reads' hr (mild_show d hm) (fun _ => hn) hG (by omega) (fun _ _ e => e) (fun h' u tk hk => ⟨.str d.shown, H, I.kept (t' := tk) hk, ⟨_, rfl⟩, q⟩) (Nat.le_trans (shown_le d hm) (by rw [sizeLine_eq]; exact hc))
mutual
theorem dp_reads {pins : List (Addr × Obj)} {σ : L2.St} {H : Hp} {s : Shared} (I : Inv X pins σ H s) : ∀ {v : V} {d : PyData}, Dp X.K H v d → d.hasDict = false
  | _, _, .non => by simp only [PyData.hasDict]
  | _, _, .bl _ => by simp only [PyData.hasDict]
  | _, _, .int _ => by simp only [PyData.hasDict]
  | _, _, .str _ => by simp only [PyData.hasDict]
  | _, _, .lst _ ha => by
    simp only [PyData.hasDict]
    exact dpAll_reads I ha
  | _, _, .tup _ ha => by
    simp only [PyData.hasDict]
    exact dpAll_reads I ha
theorem dpAll_reads {pins : List (Addr × Obj)} {σ : L2.St} {H : Hp} {s : Shared} (I : Inv X pins σ H s) : ∀ {vs : List V} {ds : List PyData}, DpAll X.K H vs ds → PyData.hasDictAll ds = false
  | _, _, .nil => by simp only [PyData.hasDictAll]
  | _, _, .cons h t => by simp only [PyData.hasDictAll, dp_reads I h, dpAll_reads I t, Bool.or_self]
end
def rReprD (K : PySem.W.Frag) : List V → Hp → VK → Prop := fun xs H Q => ∃ (a : Addr) (d : PyData), xs = [.ref a] ∧ Dp K H (.ref a) d ∧ mild d = true ∧ d.depth ≤ 64 ∧ cap d ≤ 16777216 ∧ Q (.str d.shown) H
theorem call_reprD (hG : NoG X.A) (hu : X.A.units + 70 < cLine) : CallR X (.builtin "repr") (rReprD X.K) := by
  intro pins s σ H xs us Q I r h
  obtain ⟨a, d, rfl, hd, hm, hdp, hc, q⟩ := h
  obtain ⟨u, rfl, ru⟩ := vals1 r
  obtain ⟨as, hr⟩ := Dp.reads I d _ u hd ru
  cases (show u = Value.ref a from ru)
  exact repr_of_reads' hr (mild_show d hm) (PyData.noDict_hsm (dp_reads I hd)) hG (by omega) (fun _ _ e => e) (fun h' u tk hk => ⟨.str d.shown, H, I.kept (t' := tk) hk, ⟨_, rfl⟩, q⟩) (Nat.le_trans (shown_le d hm) (by rw [sizeLine_eq]; exact hc))
/-! ### lists that are known to stand elsewhere than the table of modules -/
variable {es : List Expr} {t : TA} {pos : Pos}
def tLstB (t : TA) : TE := fun σ H Q => t σ H fun xs H1 => xs.length ≤ sizeLine ∧ ∀ p, H1 p = none → p ≠ sysModules → Q (.ref p) (upd H1 p (.lst xs))
theorem pe_lstB (h : PA X es t) : PE X (.List es pos) (tLstB t) := by
  refine ⟨fun pins s σ H Q I hq => wpAny_List_spliced (thn (h.run pos pins s σ H _ I hq) fun us s1 ⟨xs, H1, I1, r, z, q⟩ => ⟨by rw [← r.length]; exact z, ?_⟩)⟩
  exact ⟨.ref s1.heap.objs.size, upd H1 s1.heap.objs.size (.lst xs), I1.laid (t' := s1.toks) (fun b u e => Heap.get?_push_of_some _ e) (Nat.le_refl _) ⟨z, us, 0, r, Heap.get?_push_size _ rfl⟩, rfl, q _ (I1.hok.fresh (Nat.le_refl _)) (Nat.ne_of_gt I1.big)⟩
def rCatB : R2 := fun x y H Q => ∃ l b xs zs, x = .ref l ∧ y = .ref b ∧ H l = some (.lst xs) ∧ H b = some (.lst zs) ∧ xs.length + zs.length ≤ sizeLine ∧ ∀ p, H p = none → p ≠ sysModules → Q (.ref p) (upd H p (.lst (xs ++ zs)))
theorem op_catB : OpR X (binaryOp .Add) rCatB := by
  intro pins s σ H x y v u Q I rx ry h
  obtain ⟨l, b, xs, zs, rfl, rfl, hH, hB, hz, q⟩ := h
  cases rx
  cases ry
  obtain ⟨z, its, n, r, hl, e⟩ := I.lstM hH
  obtain ⟨z2, its2, n2, r2, hl2, e2⟩ := I.lstM hB
  refine PySem.P.add_list e e2 ?_ (by rw [List.size_toArray, List.size_toArray]; omega)
  rw [show its.toArray ++ its2.toArray = (its ++ its2).toArray by simp]
  exact ⟨.ref _, _, I.lnew (t' := s.toks) (r.append r2) (by rw [List.length_append]; omega), rfl, q _ I.fresh (Nat.ne_of_gt I.big)⟩
end
end Tw
/-! Tw, part 3: errors of own classes as values. -/
namespace Tw
open PySem PySem.Spec PyProof.Rows L2

/-- at a: an error of the class at C (made or caught), its own dict at d -/
def exT (a C : Addr) (d : Option Addr) : HO := .ext fun h => ∃ (oe : Obj) (vs : Array Value), h.get? a = some oe ∧ Zc (.ref C) d oe ∧ oe.data = .fields vs
theorem exT_ok {P : Program} {w : World} {H : Hp} {h : Heap} {a C : Addr} {d : Option Addr} {oe : Obj} {vs : Array Value} (e : h.get? a = some oe) (z : Zc (.ref C) d oe) (hd : oe.data = .fields vs) : ObjOk P w H h a (exT a C d) :=
  ⟨⟨oe, vs, e, z, hd⟩, ⟨oe, e⟩, fun _ _ ⟨o, v, q, r⟩ k => ⟨o, v, k o q, r⟩⟩
def IsX (H : Hp) (a C : Addr) (d : Option Addr) : Prop := H a = some (exo a C d) ∨ H a = some (exT a C d)
def IsXd (H : Hp) (d : Addr) (fs : List (Str × V)) : Prop := H d = some (exd d fs) ∨ H d = some (.xd fs)
theorem IsX.get {P : Program} {w : World} {H : Hp} {h : Heap} {a C : Addr} {d : Option Addr} (hok : HOk P w H h) (x : IsX H a C d) : ∃ (oe : Obj) (vs : Array Value), h.get? a = some oe ∧ Zc (.ref C) d oe ∧ oe.data = .fields vs := by
  rcases x with e | e
  · obtain ⟨t1, q⟩ := exo_at hok e
    exact ⟨_, _, q, ⟨rfl, rfl⟩, rfl⟩
  · have x : ObjOk P w H h a (.ext fun h => ∃ (oe : Obj) (vs : Array Value), h.get? a = some oe ∧ Zc (.ref C) d oe ∧ oe.data = .fields vs) := hok a _ e
    exact x.1
theorem IsXd.get {P : Program} {w : World} {H : Hp} {h : Heap} {d : Addr} {fs : List (Str × V)} (hok : HOk P w H h) (x : IsXd H d fs) : ∃ mA, h.Ns1 d mA ∧ ∀ f, RelO (fs.lookup f) (mA f) := by
  rcases x with e | e
  · exact exd_at hok e
  · exact (show ObjOk P w H h d (.xd fs) from hok d _ e)
theorem IsX.same {H H' : Hp} {a C : Addr} {d : Option Addr} (e : Same H H') (x : IsX H a C d) : IsX H' a C d := x.imp (e _ _) (e _ _)
theorem IsXd.same {H H' : Hp} {d : Addr} {fs : List (Str × V)} (e : Same H H') (x : IsXd H d fs) : IsXd H' d fs := x.imp (e _ _) (e _ _)

/-- what the written part says of an error class -/
structure XC (K : PySem.W.Frag) (C : Addr) : Prop where
  ox : OexC K C
  ga : PySem.W.findIn K (.ref C) "__getattribute__" = some (some (.builtin "BaseException.__getattribute__"))
  gg : PySem.W.findIn K (.ref C) "__getattr__" = some none
  hd : PySem.W.hasDictIn K C = true
  ca : PySem.W.findIn K (.ref C) "__class__" = some (some (.builtin "object.__class__"))
  cm : PySem.W.mroIn K C (.type "object") = some true
/-- what it says of object.__class__ -/
structure XO (K : PySem.W.Frag) : Prop where
  hn : PySem.W.specialIn K (.builtin "object.__class__") "__get__" = some (some (.builtin "getset_descriptor.__get__"))
  ht : PySem.W.takesIn K (.builtin "object.__class__") = some true
theorem oexC_cl {K : PySem.W.Frag} {C : Addr} (T : OexC K C) : (PySem.W.clsIn K C).isSome = true := by
  obtain ⟨nm, q, N, bs, bm, sn, sub, ab, col, dd, k0, k1, k2, k3, k5, hC, _⟩ := T.cls
  unfold PySem.W.clsIn
  rw [hC]
  rfl
section
variable {X : Cx} {CX : CXT} {k : Nat} {fI C : Addr} {fd : FuncData} {ps : List Str} {sp : Sp} {dvs : List V} {ds : List Value} {E : XK} {x f : Str} {p pos : Pos} {e : Expr} {es : List Expr} {ta : TA} {te : TE}
/-- C(e, ..) as a value, C an error class whose __init__ keeps sp -/
def tMkX (C : Addr) (sp : Sp) (dvs : List V) (ta : TA) : TE := fun σ H Q => ta σ H fun vs H1 => vs.length ≤ 1000 ∧ ∀ a, H1 a = none → sp (.ref a :: (vs ++ dvs)) (upd H1 a (exo a C none)) (fun v H2 => v = .non ∧ Q (.ref a) H2) (fun _ _ _ => False)
theorem pe_mkX (T : OexC X.K C) (iC : PySem.W.findIn X.K (.ref C) "__init__" = some (some (.ref fI))) (tI : PySem.W.typeIn X.K (.ref fI) = some (.type "function"))
    (F1 : FnOk X.prog X.w X.K X.mg X.base CX k fI fd ps sp) (hr : Room (k + 1) X.A) (hb : Binds X.K fd ps ds) (hd : Vals dvs ds) (hx : Passes CX X (fun _ _ _ => False)) (hg : Gl X x) (hm : X.mg x = some (.ref C)) (ha : PA X (e :: es) ta)
    (hdb : (x == ("__debug__" : Str)) = false := by decide) (he : starEach (e :: es) X.env = (false, eval e X.env) :: starEach es X.env := by rfl) (hpl : (backTo pos (starEach es X.env)).any (·.1) = false := by rfl) :
    PE X (.Call (.Name x p) (e :: es) [] pos) (tMkX C sp dvs ta) := by
  refine ⟨fun pins s σ H Q I h => ?_⟩
  obtain ⟨nm, q, N, bs, bm, sn, sub, ab, col, dd, k0, k1, k2, k3, k5, hC, hbm⟩ := T.cls
  refine wpAny_Call_Name_kw (ld_glob I hg hm ?_ hdb)
  refine PySem.W.callWith_K (h₀ := X.base) I.ok.mod.kin T.kC (thn (ha.run pos pins s σ H _ I h) fun us s1 ⟨vs, H1, I1, r1, hz, q1⟩ => ⟨I1.kIn, ?_⟩) he hpl
  show wpAny _ _ (call (.ref C) us) _ _ _
  obtain ⟨hp, g, dr, tk, os⟩ := s1
  have hsz : hp.objs.size ≤ hp.objs.size + 1 := Nat.le_succ _
  have hq := q1 (hp.objs.size + 1) (I1.hok.fresh hsz)
  have kk : ∀ b o, hp.get? b = some o → ((hp.push (PySem.W.kdv_tup us)).push (PySem.HandSPX.excO C hp.objs.size)).get? b = some o := fun b o z => Heap.get?_push_of_some _ (Heap.get?_push_of_some _ z)
  have hget : ((hp.push (PySem.W.kdv_tup us)).push (PySem.HandSPX.excO C hp.objs.size)).get? (hp.objs.size + 1) = some (PySem.HandSPX.excO C hp.objs.size) := by heap_get
  have I2 := I1.laid (t' := tk) (a := hp.objs.size + 1) (o := exo (hp.objs.size + 1) C none) (h' := (hp.push (PySem.W.kdv_tup us)).push (PySem.HandSPX.excO C hp.objs.size)) kk hsz (exo_ok hget)
  have r2 : Vals (V.ref (hp.objs.size + 1) :: (vs ++ dvs)) (Value.ref (hp.objs.size + 1) :: (us ++ ds)) := .cons rfl (r1.append hd)
  have hl : (Value.ref (hp.objs.size + 1) :: us ++ ds).length = ps.length := r2.length.symm.trans (F1.len _ _ _ _ hq)
  have hus : us.length ≤ sizeLine := by
    rw [← Paired.length r1, sizeLine_eq]
    omega
  refine wpAny_call (PySem.HandSPX.call_own F.excBase_ValueError (fun Y => PySem.HandSPX.refsVE_contains Y bm hbm) (I1.kIn _ _ hC) (PySem.W.looks_findIn I1.kIn iC) (fun self => PySem.W.bind_fn I1.kIn self tI) hus
    (codeAny_mono (F1.run _ X.stack _ _ ⟨Value.ref (hp.objs.size + 1) :: us, []⟩ (Value.ref (hp.objs.size + 1) :: (us ++ ds)) _ _ (fun _ _ _ => False) (hr.make C us []) (I2.env0.make C us []) (hb _ (Value.ref (hp.objs.size + 1) :: us) I2.kIn hl) r2 hq) fun r s' hq' => ?_))
  match r, hq' with
  | .error er, hq' => exact hx pins σ _ _ er s' I2 hq'
  | .ok (.ret u), hq' =>
    obtain ⟨v, H2, os2, bare2, un2, hok2, rv, ev, q2⟩ := hq'
    subst ev
    obtain ⟨h2, g2, d2, t2, os'⟩ := s'
    obtain rfl : os' = os := os2
    exact ⟨rv, .ref (hp.objs.size + 1), H2, I2.call (h' := h2) (g' := g2) (d' := d2) (t' := t2) (ch := []) un2 hok2 bare2 (fun b z => nomatch z), rfl, q2⟩
/-- e.f, e an error -/
def tXfld (K : PySem.W.Frag) (f : Str) (te : TE) : TE := fun σ H Q => te σ H fun x H1 => ∃ (a C d : Addr) (fs : List (Str × V)) (v : V), x = .ref a ∧ IsX H1 a C (some d) ∧ XC K C ∧ PySem.W.findIn K (.ref C) f = some none ∧ IsXd H1 d fs ∧ fs.lookup f = some v ∧ Q v H1
theorem pe_xfld (he : PE X e te) (hb : attributeBase e f X.env (eval e X.env) = eval e X.env := by rfl) : PE X (.Attribute e f pos) (tXfld X.K f te) := by
  refine ⟨fun pins s σ H Q I h => attr_of hb (thn (he.run pins s σ H _ I h) fun u s1 hh => ?_)⟩
  obtain ⟨x, H1, I1, rx, a, C, d, fs, v, ex, ia, T, hno, idd, hl, q⟩ := hh
  subst ex
  obtain rfl : u = Value.ref a := rx
  obtain ⟨oe, vs, ho, hz, hdt⟩ := ia.get I1.hok
  obtain ⟨mA, hns, hr⟩ := idd.get I1.hok
  obtain ⟨od, hod, hlk⟩ := lookIn_ns hns
  obtain ⟨u, hu, ru⟩ := RelO.some_of (v := v) (o := mA f) (by rw [← hl]; exact hr f)
  have J : PySem.W.InstAt s1.heap a oe C (some od) := ⟨ho, hz.1, by unfold PySem.W.notCls; rw [hdt] <;> rfl, by rw [hz.2]; exact hod⟩
  exact HandSPX.exc_get I1.kIn J T.ga T.gg T.ox.exC (PySem.W.findObj_own T.hd hno rfl (by rw [hlk, hu])) (handed_of ru) ⟨v, H1, I1.tok _, ru, q⟩
/-- isinstance(x, c), x anything that is known, errors too -/
def rIsA (K : PySem.W.Frag) : List V → Hp → VK → Prop := fun xs H Q => ∃ (x c : V) (t u : Value) (b : Bool), xs = [x, c] ∧ ClsV c u ∧ (TyX K H x t ∨ ∃ (a C : Addr) (d : Addr) (fs : List (Str × V)), x = .ref a ∧ t = .ref C ∧ IsX H a C (some d) ∧ IsXd H d fs ∧ XC K C ∧ XO K) ∧ PySem.W.kitOne K t u = some b ∧ Q (.bl b) H
theorem call_isA : CallR X (.builtin "isinstance") (rIsA X.K) := by
  intro pins s σ H xs us Q I r h
  obtain ⟨x, c, t, u, b, rfl, k, ty, e, q⟩ := h
  obtain ⟨u1, u2, rfl, r1, r2⟩ := vals2 r
  have e2 := k.eq r2
  subst e2
  rcases ty with ty | ⟨a, C, d, fs, rfl, rfl, ia, idd, T, O⟩
  · obtain ⟨P, Z, p, hx⟩ := kit_of I r1 ty
    exact PySem.W.kia_one Z I.kIn p e hx fun tk => ⟨.bl b, H, I.tok tk, rfl, q⟩
  · cases (show u1 = Value.ref a from r1)
    obtain ⟨oe, vs, ho, hz, hdt⟩ := ia.get I.hok
    obtain ⟨mA, hns, hr⟩ := idd.get I.hok
    obtain ⟨od, hod, hlk⟩ := lookIn_ns hns
    have J : PySem.W.InstAt s.heap a oe C (some od) := ⟨ho, hz.1, by unfold PySem.W.notCls; rw [hdt] <;> rfl, by rw [hz.2]; exact hod⟩
    exact PySem.W.kia_one (PySem.W.kitx_exc (od := some od) (oexC_cl T.ox) T.ga T.gg T.ox.exC T.ca O.hn O.ht T.cm) I.kIn J e (fun z => nomatch z) fun tk => ⟨.bl b, H, I.tok tk, rfl, q⟩
end
end Tw
/-! Tw, part 4: the head's facts by names, error classes too. -/
namespace Tw
open PySem PySem.Spec PyProof.Rows L2 He
abbrev Fg := PySem.W.Frag
def excB (K : Fg) (C : Addr) : Bool := match K.lookup C with
  | some ⟨.type t, _, .cls cd, sl⟩ => (match cd.mro, sl.toList with
    | .ref C' :: bm, [_, _, _, _, some (.builtin n), _] => decide (t = "type") && (decide (C' = C) && (decide (n = "ValueError.__new__") && (!cd.hasDel && (cd.hasDict && PySem.HandSPX.refsVE bm))))
    | _, _ => false)
  | _ => false
theorem excB_ok {K : Fg} {C : Addr} (h : excB K C = true) : ∃ nm q N bs bm sn sub ab col dd k0 k1 k2 k3 k5, K.lookup C = some (excClassObj nm q C N bs bm true sn sub ab col dd k0 k1 k2 k3 k5 "ValueError.__new__") ∧ PySem.HandSPX.refsVE bm = true := by
  unfold excB at h
  cases e : K.lookup C with
  | none =>
    rw [e] at h
    cases h
  | some o =>
    rw [e] at h
    obtain ⟨oc, od, dt, sl⟩ := o
    cases oc with
    | type t =>
      cases dt with
      | cls cd =>
        obtain ⟨nm, bs, mro, ns, q, hd, sn, sb, ab, col, del⟩ := cd
        dsimp only at h
        obtain ⟨sl⟩ := sl
        dsimp only at h
        match mro, sl, h with
        | .ref C' :: bm, [k0, k1, k2, k3, some (.builtin n), k5], h =>
          obtain ⟨h1, h⟩ := ba h
          obtain ⟨h2, h⟩ := ba h
          obtain ⟨h3, h⟩ := ba h
          obtain ⟨h4, h⟩ := ba h
          obtain ⟨h5, h6⟩ := ba h
          have e1 := of_decide_eq_true h1
          have e2 := of_decide_eq_true h2
          have e3 := of_decide_eq_true h3
          subst e1 e2 e3
          have e4 : del = false := by simpa using h4
          subst e4
          subst h5
          exact ⟨_, _, _, _, _, _, _, _, _, _, _, _, _, _, _, rfl, h6⟩
      | _ => cases h
    | _ => cases h
inductive Fy where
  | fa (f : Fa)
  | xc (x : Str)
  | xo
  | ini (x : Str)
  | kit (x y : Str) (b : Bool)
  | kitT (x : Str) (T : String) (b : Bool)
  | names (x : Str) (zs : List Str)
def Fy.ok (K : Fg) : Fy → Bool
  | .fa f => f.ok K
  | .xc x => excB K (ga K x) && (eqO (PySem.W.findIn K (.ref (ga K x)) "__setattr__") (some (some (.builtin "object.__setattr__"))) && (decide (PySem.W.subIn K (.ref (ga K x)) (.type "BaseException") = some true) && (decide (PySem.W.typeIn K (.ref (ga K x)) = some (.type "type")) &&
      (PySem.W.keepIn K (.ref (ga K x)) && (eqO (PySem.W.findIn K (.ref (ga K x)) "__getattribute__") (some (some (.builtin "BaseException.__getattribute__"))) && (eqO (PySem.W.findIn K (.ref (ga K x)) "__getattr__") (some none) &&
      (PySem.W.hasDictIn K (ga K x) && (eqO (PySem.W.findIn K (.ref (ga K x)) "__class__") (some (some (.builtin "object.__class__"))) && decide (PySem.W.mroIn K (ga K x) (.type "object") = some true)))))))))
  | .xo => eqO (PySem.W.specialIn K (.builtin "object.__class__") "__get__") (some (some (.builtin "getset_descriptor.__get__"))) && decide (PySem.W.takesIn K (.builtin "object.__class__") = some true)
  | .ini x => eqO (PySem.W.findIn K (.ref (ga K x)) "__init__") (some (some (.ref (ma K (ga K x) "__init__")))) && decide (PySem.W.typeIn K (.ref (ma K (ga K x) "__init__")) = some (.type "function"))
  | .kit x y b => decide (PySem.W.kitOne K (.ref (ga K x)) (.ref (ga K y)) = some b)
  | .kitT x T b => decide (PySem.W.kitOne K (.ref (ga K x)) (.type T) = some b)
  | .names x zs => zs.all fun z => eqO (PySem.W.findIn K (.ref (ga K x)) z) (some none)
section
variable {K : Fg} {h : Heap} {mg : Str → Option Value}
theorem xc_ok {x : Str} (c : (Fy.xc x).ok K = true) : XC K (ga K x) := by
  obtain ⟨c1, c⟩ := ba c
  obtain ⟨c2, c⟩ := ba c
  obtain ⟨c3, c⟩ := ba c
  obtain ⟨c4, c⟩ := ba c
  obtain ⟨c5, c⟩ := ba c
  obtain ⟨c6, c⟩ := ba c
  obtain ⟨c7, c⟩ := ba c
  obtain ⟨c8, c⟩ := ba c
  obtain ⟨c9, c10⟩ := ba c
  exact ⟨⟨excB_ok c1, eqO_ok c2, of_decide_eq_true c3, of_decide_eq_true c4, c5⟩, eqO_ok c6, eqO_ok c7, c8, eqO_ok c9, of_decide_eq_true c10⟩
theorem xo_ok (c : Fy.xo.ok K = true) : XO K := by
  unfold Fy.ok at c
  obtain ⟨c1, c2⟩ := ba c
  exact ⟨eqO_ok c1, of_decide_eq_true c2⟩
theorem ini_ok {x : Str} (c : (Fy.ini x).ok K = true) : PySem.W.findIn K (.ref (ga K x)) "__init__" = some (some (.ref (ma K (ga K x) "__init__"))) ∧ PySem.W.typeIn K (.ref (ma K (ga K x) "__init__")) = some (.type "function") := by
  obtain ⟨c1, c2⟩ := ba c
  exact ⟨eqO_ok c1, of_decide_eq_true c2⟩
theorem kit_ok {x y : Str} {b : Bool} (c : (Fy.kit x y b).ok K = true) : PySem.W.kitOne K (.ref (ga K x)) (.ref (ga K y)) = some b := of_decide_eq_true c
theorem kitT_ok {x : Str} {T : String} {b : Bool} (c : (Fy.kitT x T b).ok K = true) : PySem.W.kitOne K (.ref (ga K x)) (.type T) = some b := of_decide_eq_true c
theorem names_ok {x : Str} {zs : List Str} (c : (Fy.names x zs).ok K = true) {z : Str} (hz : z ∈ zs) : PySem.W.findIn K (.ref (ga K x)) z = some none := eqO_ok (List.all_eq_true.mp c z hz)
end
/-! ### the hook: any truths of the written part, in groups -/
abbrev Fz := List (Fg → Bool)
def obsY (fs : Fz) (fn : List DefD) (K : Fg) : AlD := ((fs.all fun f => f K) && fn.all fun d => d.ok K, fn.map fun d => fnW K d.at_)
def SaysY (fs : Fz) (fn : List DefD) (K : Fg) : Prop := obsY fs fn K = valD fn
def obsYG (n : Nat) (fs : Fz) (fn : List DefD) (g : Addr → Option Obj) : AlD := obsY fs fn (frG g (asD g n))
def hookY (n : Nat) (fs : Fz) (fn : List DefD) : PySem.W.Hook where
  α := AlD
  obs := fun s => obsYG n fs fn s.heap.get?
  val := fun _ => valD fn
  says := fun _ h => ∃ K : Fg, K.In h ∧ SaysY fs fn K
  of := fun _ _ e => ⟨_, frG_in, e⟩
  keeps := fun _ _ _ ⟨K, hK, c⟩ k => ⟨K, PySem.W.Frag.In.keeps hK k, c⟩
theorem obsYG_eq {n : Nat} {fs : Fz} {fn : List DefD} {g : Addr → Option Obj} {s : Shared} (h : ∀ a, g a = s.heap.get? a) : obsYG n fs fn g = (hookY n fs fn).obs s := by
  have e : g = s.heap.get? := funext h
  rw [e] <;> rfl
section
variable {fs : Fz} {fn : List DefD} {K : Fg}
theorem SaysY.fact (c : SaysY fs fn K) (i : Nat) {f : Fg → Bool} (h : fs[i]? = some f := by rfl) : f K = true := by
  have c1 := (ba (show ((fs.all fun f => f K) && fn.all fun d => d.ok K) = true from congrArg (fun z : AlD => z.1) c)).1
  exact List.all_eq_true.mp c1 f (List.mem_of_getElem? h)
theorem SaysY.def_ (c : SaysY fs fn K) (i : Nat) {d : DefD} (h : fn[i]? = some d := by rfl) : ∃ fd, FunD K d.name d.qual d.params d.body d.scope (d.dvs K) (d.kws K) (fAd K d.at_) fd := by
  have c2 := (ba (show ((fs.all fun f => f K) && fn.all fun d => d.ok K) = true from congrArg (fun z : AlD => z.1) c)).2
  have e : fn.map (fun d => fnW K d.at_) = fn.map DefD.val := congrArg (fun z : AlD => z.2) c
  have e2 : (fn.map fun d => fnW K d.at_)[i]? = (fn.map DefD.val)[i]? := by rw [e]
  rw [List.getElem?_map, List.getElem?_map, h] at e2
  exact DefD.funD (Option.some.inj e2) (List.all_eq_true.mp c2 d (List.mem_of_getElem? h))
/-- a group told of each item of a list -/
theorem of_all {α : Type} {l : List α} {f : α → Bool} (h : l.all f = true) {x : α} (hx : x ∈ l) : f x = true := List.all_eq_true.mp h x hx
end
/-! ### defs as data -/
abbrev FnP (K : Fg) (x qual : Str) (st : Stmt) (f : Addr) (fd : FuncData) : Prop := FunD K x qual (defArgs st) (defBody st) (defScope st) [] [] f fd
theorem _root_.L2.FunD.okG {P : Program} {w : World} {K : Fg} {mg : Str → Option Value} {base : Heap} {CX : CXT} {x qual : Str} {params : Arguments} {body : List Stmt} {scope : Scope} {dvs : List V} {kws : List (Str × V)} {f : Addr} {fd : FuncData} {N ps : List Str} {k : Nat} {sp : Sp}
    (F : FunD K x qual params body scope dvs kws f fd) (S : FnScope N ps scope) (len : ∀ vs H Q E, sp vs H Q E → vs.length = ps.length)
    (hbody : ∀ (cdv : Value) (A : Around) (outer : List Env) (s : Shared) (H : Hp) (vs : List V) (Q : VK) (E : XK), Room k (A.deeper (envOfC qual scope s.heap.objs.size f cdv)) → NoG (A.deeper (envOfC qual scope s.heap.objs.size f cdv)) → sp vs H Q E →
      ∃ t, PSs (cxOf CX P w K mg base N qual scope f cdv A outer s H E) body t ∧ t { nx := fun _ H' => Q .non H', rt := Q } (start N vs) H) : FnG P w K mg base CX (k + 1) f fd ps sp := by
  obtain ⟨oc, od, dV, kV, doc, pm, an, cdv, ct, osl, rfl, lk, hcd, _, _⟩ := F.ex
  exact fng lk hcd S len fun A outer s H vs Q E hr hg hsp => hbody cdv A outer s H vs Q E hr hg hsp
/-! ### the law's end over facts -/
theorem walk_ofEG {l : PySem.W.OpenLaw} {n k : Nat} {q : Program} {loose : List Str} {XP : (Str → Option Value) → Heap → Prop} {YP : World → Heap → Prop} {d : DefRec} {CX : CXT} {x : Str}
    (hn : l.most = some n) (hn2 : n ≤ sizeLine) (hdf : d.params.defaults = []) (hr : Room k callerA)
    (F : ∀ (w : World) (mg : Str → Option Value) (fa : Addr) (h : Heap), YP w h → h.Ns mainGlobals mg → mg d.name = some (.ref fa) →
      ∃ (K : Fg) (fd : FuncData) (sp : Sp), K.In h ∧ (∀ (s : Shared) (u : Value), BindsTo s fd ⟨[u], []⟩ [(x, u)]) ∧
        (∀ (H : Hp) (a : Addr) (ns : List Int), ns.length ≤ n → Only H → SqL K H a (ns.map V.int) → sp [.ref a] H (fun v _ => v = .bl true) fun _ _ _ => False) ∧
        ∀ base : Heap, K.In base → base.Ns mainGlobals mg → FnG l.prog w K mg base CX k fa fd [x] sp)
    (hCX : ∀ (H : Hp) (s : Shared) (e : Value) (s' : Shared), CX [] H s (fun _ _ _ => False) e s' → False) :
    PySem.W.WalkO q loose XP YP l.row.toRowW d [] (fun f vs => PySem.call f vs) := by
  refine Att.attach_call hn hdf fun w s₀ s₁ mg mb fa o pm cd doc a vs ns G Y ho hd hcd hmg hobj hints hlen hg => ?_
  obtain ⟨K, fd, sp, KX, hb, hsp, hF⟩ := F w mg fa _ Y G.T.g hmg
  exact law_endG KX G.T.g G.T.b G.T.builtins G.T.nolimit hg hobj hints (Nat.le_trans hlen hn2) hr hF hb (fun H hO hS => hsp H a ns hlen hO hS) fun H e s' => hCX H s₁ e s'
end Tw
/-! Tw: new objects, told by what holds of the heap behind them alone. -/
namespace Tw
open PySem PySem.Spec PyProof.Rows L2
theorem same_new {H : Hp} {p : Addr} {o : HO} (h : H p = none) : Same H (upd H p o) := fun b u e => by
  rw [upd_ne (ne_of_none e h)]
  exact e
section
variable {X : Cx} {es : List Expr} {t : TA} {pos : Pos}
/-- a new object o: its place, the heap behind -/
def New (H : Hp) (o : HO) (Q : Addr → Hp → Prop) : Prop := ∀ (p : Addr) (H' : Hp), H p = none → p ≠ sysModules → Same H H' → H' p = some o → Q p H'
theorem New.at {H : Hp} {o : HO} {Q : Addr → Hp → Prop} (h : New H o Q) {p : Addr} (h1 : H p = none) (h2 : p ≠ sysModules) : Q p (upd H p o) := h p _ h1 h2 (same_new h1) upd_same
def tLstN (t : TA) : TE := fun σ H Q => t σ H fun xs H1 => xs.length ≤ sizeLine ∧ New H1 (.lst xs) fun p H' => Q (.ref p) H'
theorem pe_lstN (h : PA X es t) : PE X (.List es pos) (tLstN t) := by
  refine ⟨fun pins s σ H Q I hq => wpAny_List_spliced (thn (h.run pos pins s σ H _ I hq) fun us s1 ⟨xs, H1, I1, r, z, q⟩ => ⟨by rw [← r.length]; exact z, ?_⟩)⟩
  exact ⟨.ref s1.heap.objs.size, upd H1 s1.heap.objs.size (.lst xs), I1.laid (t' := s1.toks) (fun b u e => Heap.get?_push_of_some _ e) (Nat.le_refl _) ⟨z, us, 0, r, Heap.get?_push_size _ rfl⟩, rfl, q.at (I1.hok.fresh (Nat.le_refl _)) (Nat.ne_of_gt I1.big)⟩
def tTupN (t : TA) : TE := fun σ H Q => t σ H fun xs H1 => xs.length ≤ sizeLine ∧ ∀ (p : Addr) (H' : Hp), H1 p = none → Same H1 H' → H' p = some (.tup xs) → Q (.ref p) H'
theorem pe_tupN {x1} (h : PA X es t) : PE X (.Tuple es x1 pos) (tTupN t) := by
  refine ⟨fun pins s σ H Q I hq => wpAny_Tuple_spliced (thn (h.run pos pins s σ H _ I hq) fun us s1 ⟨xs, H1, I1, r, z, q⟩ => ⟨by rw [← r.length]; exact z, ?_⟩)⟩
  have hf : H1 s1.heap.objs.size = none := I1.hok.fresh (Nat.le_refl _)
  exact ⟨.ref s1.heap.objs.size, upd H1 s1.heap.objs.size (.tup xs), I1.laid (t' := s1.toks) (fun b u e => Heap.get?_push_of_some _ e) (Nat.le_refl _) ⟨z, us, r, _, Heap.get?_push_size _ rfl, rfl, 0, rfl⟩, rfl, q _ _ hf (same_new hf) upd_same⟩
def tDnewN : TE := fun _ H Q => New H (.dK []) fun p H' => Q (.ref p) H'
theorem pe_dnewN : PE X (.Dict [] [] pos) tDnewN := ⟨fun pins s σ H Q I h =>
  wpAny_Dict_empty ⟨.ref s.heap.objs.size, _, I.laid (a := s.heap.objs.size) (o := .dK []) (t' := s.toks) (fun _ _ q => Heap.get?_push_of_some _ q) (Nat.le_refl _) (dk_empty s.heap I.big), rfl, h.at (I.hok.fresh (Nat.le_refl _)) (Nat.ne_of_gt I.big)⟩⟩
def rCatN : R2 := fun x y H Q => ∃ l b xs zs, x = .ref l ∧ y = .ref b ∧ H l = some (.lst xs) ∧ H b = some (.lst zs) ∧ xs.length + zs.length ≤ sizeLine ∧ New H (.lst (xs ++ zs)) fun p H' => Q (.ref p) H'
theorem op_catN : OpR X (binaryOp .Add) rCatN := by
  intro pins s σ H x y v u Q I rx ry h
  obtain ⟨l, b, xs, zs, rfl, rfl, hH, hB, hz, q⟩ := h
  cases rx
  cases ry
  obtain ⟨z, its, n, r, hl, e⟩ := I.lstM hH
  obtain ⟨z2, its2, n2, r2, hl2, e2⟩ := I.lstM hB
  refine PySem.P.add_list e e2 ?_ (by rw [List.size_toArray, List.size_toArray]; omega)
  rw [show its.toArray ++ its2.toArray = (its ++ its2).toArray by simp]
  exact ⟨.ref _, _, I.lnew (t' := s.toks) (r.append r2) (by rw [List.length_append]; omega), rfl, q.at I.fresh (Nat.ne_of_gt I.big)⟩
end
end Tw
namespace Tw
open PySem PySem.Spec PyProof.Rows L2
theorem room70 {k : Nat} {A : Around} (r : Room k A) : A.units + 70 < cLine := by
  have := r.un
  omega
section
variable {X : Cx} {K : PySem.W.Frag}
theorem ixl (K : PySem.W.Frag) (h : X.K = K := by rfl) : IxR X (rIxL K) := by
  subst h
  exact ix_list
theorem ixt (K : PySem.W.Frag) (h : X.K = K := by rfl) : IxR X (rIxT K) := by
  subst h
  exact ix_tup
end
end Tw
/-! Tw, part 5: the pen that draws. -/
namespace Tw
open PySem PySem.Spec PyProof.Rows L2 He
/-- a statement, what holds behind it on every way, the rest once -/
def tMid (t u : TS) : TS := fun D σ H => ∃ W : L2.St → Hp → Prop, t { D with nx := W } σ H ∧ ∀ σ' H', W σ' H' → u D σ' H'
theorem pss_mid {X : Cx} {st : Stmt} {rest : List Stmt} {t u : TS} (h1 : PS X st t) (h2 : PSs X rest u) : PSs X (st :: rest) (tMid t u) :=
  ⟨fun pins s σ H D I ⟨W, hm, hu⟩ => wpAny_execs_cons (thn (h1.run pins s σ H { D with nx := W } I hm) fun f s1 q => match f, q with
    | .next, ⟨σ', H', I', q⟩ => h2.run pins s1 σ' H' D I' (hu σ' H' q)
    | .ret _, q => q
    | .brk, q => q
    | .cont, q => q)⟩
/-- all that was tracked but p stands -/
def But (p : Addr) (H H' : Hp) : Prop := ∀ b o, H b = some o → b ≠ p → H' b = some o
theorem But.refl {p : Addr} (H : Hp) : But p H H := fun _ _ e _ => e
theorem But.trans {p : Addr} {H H1 H2 : Hp} (a : But p H H1) (b : But p H1 H2) : But p H H2 := fun c o e h => b c o (a c o e h) h
theorem But.of {p : Addr} {H H' : Hp} (e : Same H H') : But p H H' := fun b o h _ => e b o h
theorem But.upd {p : Addr} {H : Hp} {o : HO} : But p H (upd H p o) := fun b u e h => by
  rw [upd_ne h]
  exact e
/-- the pen: the script's ints, the number of draws so far, what is left of a great number -/
def PenAt (H : Hp) (p : Addr) (c : Nat) : Prop := ∃ (l : Addr) (ns : List Int) (i g : Int), H p = some (.lst [.ref l, .int i, .int g]) ∧ H l = some (.lst (ns.map V.int)) ∧ l ≠ p ∧ ns.length ≤ 63 ∧ 0 ≤ i ∧ i ≤ (c : Int) ∧ 0 ≤ g
theorem PenAt.mono {H : Hp} {p : Addr} {c c' : Nat} (h : PenAt H p c) (hc : c ≤ c') : PenAt H p c' := by
  obtain ⟨l, ns, i, g, h1, h2, h3, h4, h5, h6, h7⟩ := h
  exact ⟨l, ns, i, g, h1, h2, h3, h4, h5, by omega, h7⟩
theorem PenAt.same {H H' : Hp} {p : Addr} {c : Nat} (e : Same H H') (h : PenAt H p c) : PenAt H' p c := by
  obtain ⟨l, ns, i, g, h1, h2, h3⟩ := h
  exact ⟨l, ns, i, g, e _ _ h1, e _ _ h2, h3⟩
/-- a draw: below many, the pen one further, nothing else touched -/
def spDraw : Sp := fun vs H Q _ => ∃ (p : Addr) (m : Int) (c : Nat), vs = [.ref p, .int m] ∧ 0 < m ∧ m < 1073741824 ∧ PenAt H p c ∧ c ≤ 1000000 ∧
  ∀ (r : Int) (H' : Hp), 0 ≤ r → r < m → PenAt H' p (c + 1) → But p H H' → Q (.int r) H'
theorem dp_ints {K : Fg} {H : Hp} : ∀ ns : List Int, DpAll K H (ns.map V.int) (ns.map PyData.int)
  | [] => .nil
  | n :: ns => .cons (.int n) (dp_ints ns)
theorem lay_ints : ∀ ns : List Int, PyData.canLayAll0 (ns.map PyData.int) = true ∧ PyData.depthAll (ns.map PyData.int) = 0
  | [] => ⟨rfl, rfl⟩
  | n :: ns => by
    obtain ⟨h1, h2⟩ := lay_ints ns
    constructor
    · simp only [List.map_cons, PyData.canLayAll0, PyData.canLay0, h1, Bool.and_self]
    · simp only [List.map_cons, PyData.depthAll, PyData.depth, h2, Nat.max_self]
theorem shaped_ints (ns : List Int) : SeqAt.shaped (.list (ns.map PyData.int)) = true := by
  obtain ⟨h1, h2⟩ := lay_ints ns
  simp [SeqAt.shaped, PyData.canLay0, PyData.depth, h1, h2]
theorem atI_of {xs : List V} {i : Int} {v : V} (h0 : 0 ≤ i) (h : xs[i.toNat]? = some v) : atI xs i = some v := by
  have e : i = (i.toNat : Int) := (Int.toNat_of_nonneg h0).symm
  rw [e]
  exact atI_nat h
theorem mul_le' {a b A B : Int} (h1 : 0 ≤ a) (h2 : a ≤ A) (h3 : 0 ≤ b) (h4 : b ≤ B) : 0 ≤ a * b ∧ a * b ≤ A * B :=
  ⟨Int.mul_nonneg h1 h3, Int.mul_le_mul h2 h4 h3 (Int.le_trans h1 h2)⟩
theorem pow_ok (i : Int) (h0 : 0 ≤ i) (h : i < 2 ^ 64) : i.natAbs < 2 ^ 64 := by omega
end Tw
namespace Tw
open PySem PySem.Spec PyProof.Rows L2 He
theorem But.seq {K : Fg} {p a : Addr} {H H' : Hp} {xs : List V} (e : But p H H') (hne : a ≠ p) (h : SqL K H a xs) : SqL K H' a xs := by
  rcases h with (h | ⟨o, h⟩) | h
  · exact .inl (.inl (e _ _ h hne))
  · exact .inl (.inr ⟨o, e _ _ h hne⟩)
  · exact .inr h
theorem cut_ints (ns : List Int) (lo hi : Option Int) : ∃ ms : List Int, cutV (ns.map V.int) lo hi = ms.map V.int ∧ ms.length ≤ ns.length := by
  refine ⟨(ns.drop (HT.sIx (ns.map V.int).length 0 lo)).take (HT.sIx (ns.map V.int).length (ns.map V.int).length hi - HT.sIx (ns.map V.int).length 0 lo), ?_, ?_⟩
  · unfold cutV
    rw [List.map_take, List.map_drop]
  · rw [List.length_take, List.length_drop]
    omega
/-- a new pen -/
def spPen (K : Fg) : Sp := fun vs H Q _ => ∃ (a : Addr) (ns : List Int), vs = [.ref a] ∧ SqL K H a (ns.map V.int) ∧ ns.length ≤ 63 ∧ ∀ (p : Addr) (H' : Hp), H p = none → PenAt H' p 0 → Same H H' → Q (.ref p) H'
/-- an item of a list that is not the pen, drawn -/
def spPick (K : Fg) : Sp := fun vs H Q _ => ∃ (p q : Addr) (xs : List V) (c : Nat), vs = [.ref p, .ref q] ∧ SqL K H q xs ∧ q ≠ p ∧ 0 < xs.length ∧ xs.length < 1000 ∧ PenAt H p c ∧ c ≤ 1000000 ∧
  ∀ (v : V) (H' : Hp), v ∈ xs → PenAt H' p (c + 1) → But p H H' → Q v H'
/-- the heap without the pen -/
def hid (p : Addr) (H : Hp) : Hp := fun b => if b = p then none else H b
theorem hid_ne {p b : Addr} {H : Hp} (h : b ≠ p) : hid p H b = H b := if_neg h
theorem hid_same {p : Addr} {H : Hp} : Same (hid p H) H := fun b o e => by
  unfold hid at e
  split at e
  · cases e
  · exact e
theorem hid_but {p : Addr} {H H' : Hp} (e : But p H H') : Same (hid p H) (hid p H') := fun b o h => by
  unfold hid at h ⊢
  split at h
  · cases h
  · rename_i hb
    rw [if_neg hb]
    exact e b o h hb
theorem sqT_same {K : Fg} {H H' : Hp} {a : Addr} {xs : List V} (e : Same H H') (h : SqT K H a xs) : SqT K H' a xs := by
  rcases h with (h | ⟨o, h⟩) | h
  · exact .inl (.inl (e _ _ h))
  · exact .inl (.inr ⟨o, e _ _ h⟩)
  · exact .inr h
mutual
theorem Dx.same {K : Fg} {H H' : Hp} (e : Same H H') : ∀ {v : V} {d : PyData}, Dx K H v d → Dx K H' v d
  | _, _, .non => .non
  | _, _, .bl b => .bl b
  | _, _, .int i => .int i
  | _, _, .str x => .str x
  | _, _, .lst h n a => .lst (e.seq h) n (DxAll.same e a)
  | _, _, .tup h a => .tup (sqT_same e h) (DxAll.same e a)
  | _, _, .dic h a => .dic (e _ _ h) (DxAll.same e a)
theorem DxAll.same {K : Fg} {H H' : Hp} (e : Same H H') : ∀ {vs : List V} {ds : List PyData}, DxAll K H vs ds → DxAll K H' vs ds
  | _, _, .nil => .nil
  | _, _, .cons h t => .cons (Dx.same e h) (DxAll.same e t)
end
theorem sz1000 {n : Nat} (h : n ≤ 1000) : n ≤ sizeLine := Nat.le_trans h (by decide)
end Tw
/-! Tw: the pen again, its list of cells named: so that a list that grows beside it is known to be another one. -/
namespace Tw
open PySem PySem.Spec PyProof.Rows L2 He
/-- the pen at p, its cells at l -/
def PenL (H : Hp) (p l : Addr) (c : Nat) : Prop := ∃ (ns : List Int) (i g : Int), H p = some (.lst [.ref l, .int i, .int g]) ∧ H l = some (.lst (ns.map V.int)) ∧ l ≠ p ∧ ns.length ≤ 63 ∧ 0 ≤ i ∧ i ≤ (c : Int) ∧ 0 ≤ g
theorem PenL.mono {H : Hp} {p l : Addr} {c c' : Nat} (h : PenL H p l c) (hc : c ≤ c') : PenL H p l c' := by
  obtain ⟨ns, i, g, h1, h2, h3, h4, h5, h6, h7⟩ := h
  exact ⟨ns, i, g, h1, h2, h3, h4, h5, by omega, h7⟩
theorem PenL.same {H H' : Hp} {p l : Addr} {c : Nat} (e : Same H H') (h : PenL H p l c) : PenL H' p l c := by
  obtain ⟨ns, i, g, h1, h2, h3⟩ := h
  exact ⟨ns, i, g, e _ _ h1, e _ _ h2, h3⟩
/-- another object than the pen and its cells changes -/
theorem PenL.upd {H : Hp} {p l q : Addr} {c : Nat} {o : HO} (h : PenL H p l c) (h1 : q ≠ p) (h2 : q ≠ l) : PenL (L2.upd H q o) p l c := by
  obtain ⟨ns, i, g, e1, e2, r⟩ := h
  exact ⟨ns, i, g, by rw [upd_ne h1.symm]; exact e1, by rw [upd_ne h2.symm]; exact e2, r⟩
/-- what is new is neither -/
theorem PenL.new {H : Hp} {p l q : Addr} {c : Nat} (h : PenL H p l c) (hq : H q = none) : q ≠ p ∧ q ≠ l := by
  obtain ⟨ns, i, g, e1, e2, r⟩ := h
  exact ⟨(ne_of_none e1 hq).symm, (ne_of_none e2 hq).symm⟩
def spDrawL : Sp := fun vs H Q _ => ∃ (p l : Addr) (m : Int) (c : Nat), vs = [.ref p, .int m] ∧ 0 < m ∧ m < 1073741824 ∧ PenL H p l c ∧ c ≤ 1000000 ∧
  ∀ (r : Int) (H' : Hp), 0 ≤ r → r < m → PenL H' p l (c + 1) → But p H H' → Q (.int r) H'
def spPenL (K : Fg) : Sp := fun vs H Q _ => ∃ (a : Addr) (ns : List Int), vs = [.ref a] ∧ SqL K H a (ns.map V.int) ∧ ns.length ≤ 63 ∧ ∀ (p l : Addr) (H' : Hp), H p = none → PenL H' p l 0 → Same H H' → Q (.ref p) H'
def spPickL (K : Fg) : Sp := fun vs H Q _ => ∃ (p l q : Addr) (xs : List V) (c : Nat), vs = [.ref p, .ref q] ∧ SqL K H q xs ∧ q ≠ p ∧ 0 < xs.length ∧ xs.length < 1000 ∧ PenL H p l c ∧ c ≤ 1000000 ∧
  ∀ (v : V) (H' : Hp), v ∈ xs → PenL H' p l (c + 1) → But p H H' → Q v H'
end Tw
/-! Tw: try: body, except x as n: suite, the caught error tracked behind the suite. -/
namespace Tw
open PySem PySem.Spec PyProof.Rows L2
section
variable {X : Cx} {pins : List (Addr × Obj)} {σ : L2.St} {H : Hp} {s : Shared}
/-- a pinned error of ours becomes a tracked one -/
theorem track {a C : Addr} {d : Option Addr} {oe : Obj} {vs : Array Value} (I : Inv X ((a, oe) :: pins) σ H s) (h0 : X.s_0.heap.get? a = none) (hne : ∀ p ∈ X.pn ++ pins, p.1 ≠ a) (hz : Zc (.ref C) d oe) (hd : oe.data = .fields vs) :
    Inv X pins σ (upd H a (exT a C d)) s := by
  obtain ⟨ha, na, nL, nF, nC⟩ := I.pin (a, oe) (List.mem_append_right _ List.mem_cons_self)
  have ne : ∀ {b : Addr} {u : HO}, H b = some u → b ≠ a := fun e => ne_of_none e na
  refine ⟨I.ok, I.os, I.bare, ⟨I.base.keep, I.base.slot, fun b o e n hx => ?_, I.base.there, fun b xs e => ?_, fun b o u e => ?_, fun b ps e => ?_⟩, I.loc, I.cell, ?_, fun x c e => ?_, fun p hp => ?_, fun b u e => ?_, I.len⟩
  · rw [upd_ne (fun z => by rw [z, h0] at e; cases e)]
    exact I.base.free b o e n hx
  · have q := I.base.tups b xs e
    rw [upd_ne (ne q)]
    exact q
  · have q := I.base.frzs b o u e
    rw [upd_ne (ne q)]
    exact q
  · obtain ⟨m, q⟩ := I.base.tbls b ps e
    exact ⟨m, by rw [upd_ne (ne q)]; exact q⟩
  · rw [upd_ne (Ne.symm nL)]
    exact I.free
  · obtain ⟨v, o, ho, hv⟩ := I.cell x c e
    rw [upd_ne (fun z => by
      have z' : c = a := z
      rw [z'] at ho
      have ha' : s.heap.get? a = some oe := ha
      rw [ha'] at ho
      cases ho
      exact nC v hv)]
    exact I.freeC x c e
  · obtain ⟨e1, e2, e3⟩ := I.pin p (by
      rcases List.mem_append.mp hp with z | z
      · exact List.mem_append_left _ z
      · exact List.mem_append_right _ (List.mem_cons_of_mem _ z))
    exact ⟨e1, by rw [upd_ne (hne p hp)]; exact e2, e3⟩
  · by_cases hb : b = a
    · subst hb
      rw [upd_same] at e
      cases e
      exact exT_ok ha hz hd
    · rw [upd_ne hb] at e
      exact (I.hok b u e).stay (fun _ _ _ q => q) (fun c q => by rw [upd_ne (ne q)]; exact q) fun c xs q => by rw [upd_ne (ne q)]; exact q
end
/-- what the clause wishes: its error stands tracked behind the suite -/
def wAsK (K : PySem.W.Frag) (c : Value) (i : Nat) (ts : Addr → Value → Option Addr → TS) (Wout : WX) (D : Ends) : WX := fun cls d σ H =>
  ∃ (C : Addr) (b : Bool), cls = .ref C ∧ PySem.W.exmOne K cls c = some b ∧ (b = true → ∀ a, H a = none → ts a cls d { nx := fun σ' H' => D.nx (σ'.set i none) (upd H' a (exT a C d)), rt := D.rt, bk := fun σ' H' => D.bk (σ'.set i none) H', ct := fun σ' H' => D.ct (σ'.set i none) H' } (σ.set i (some (.ref a))) H) ∧
    (b = false → Wout cls d σ H)
section
variable {X : Cx} {x n : Str} {c : Value} {i : Nat} {body suite : List Stmt} {b₀ : Stmt} {np pos pos' : Pos} {tb : WX → TS} {ts : Addr → Value → Option Addr → TS} {Wout : WX}
theorem ps_tryK (hex : X.ex = []) (hs : X.stack = X.env :: X.outer) (hf : X.env.frame = some X.env.locals) (hN : X.N.Nodup) (hi : X.N[i]? = some n) (hln : X.env.kindOf n = some .local) (hc : Names X x c) (tk : Takes X Wout)
    (hb : ∀ (W : WX) (pn : List (Addr × Obj)) (xe : Value → Shared → Prop), Takes (X.tr pn xe) W → PassesOwn (model X.prog X.w) X.A X.env xe → PSs (X.tr pn xe) body (tb W))
    (hsu : ∀ (a : Addr) (oe : Obj) (cls : Value) (d : Option Addr) (pn : List (Addr × Obj)), Zc cls d oe → (∃ vs, oe.data = .fields vs) → PSs (X.suite a ((a, oe) :: pn)) (b₀ :: suite) (ts a cls d)) :
    PS X (.Try body [.ExceptHandler (some (.Name x np)) (some n) (b₀ :: suite) pos'] [] [] pos) (fun D σ H => tb (wAsK X.K c i ts Wout D) D σ H) := by
  refine ⟨fun pins s σ H D I h => ?_⟩
  have ok := I.ok
  have hfr : X.A.frames = some (X.env :: X.outer) := by rw [ok.frames, hs]
  have hloc : Loc X.env.scope n := .inl hln
  refine wpAny_Try_except ?_
  refine wpAny_mono ((hb (wAsK X.K c i ts Wout D) (X.pn ++ pins) (fun e s₁ => wpAny (model X.prog X.w) X.A (noteFrame e X.env) (fun _ s₂ => wpAny (model X.prog X.w) X.A (setFlight e none) (fun _ s₃ =>
    wpAny (model X.prog X.w) X.A (handleBy e X.env [.ExceptHandler (some (.Name x np)) (some n) (b₀ :: suite) pos']) (SP X pins D) X.xe s₃) X.xe s₂) X.xe s₁) (fun u s' xx => ?_) PassesOwn.looking).run [] s σ H D (I.toTry _) h) (fun f s1 hsp => ?_) (fun e s1 he => he)
  · obtain ⟨a, B, sI, pins', σ', H', cls, d, rfl, J', nb, up, sky, na, os, ag, C, b, hcls, hb1, hyes, hno⟩ := xx
    have J : Inv X pins σ' H' sI := J'.ofTry ok
    have sky' : Sky B (X.env :: X.outer) a (Zc cls d) X.env.locals s'.heap := by rw [← hs]; exact sky
    show wpAny (model X.prog X.w) X.A (noteFrame (.ref a) X.env) _ _ _
    refine Sky.land Zc.steady hfr hf sky' fun h3 fl3 up3 => ?_
    have J3 : Inv X pins σ' H' { s' with heap := h3 } := J.landed nb fl3.1 (up.trans up3) os ag
    obtain ⟨oe3, vs3, he3, hz3, hd3⟩ := fl3.there
    have notFr : ∀ {h : Heap} {o : Obj} {vs : Array Value}, h.FunFrames B (X.env :: X.outer) → h.get? a = some o → o.data = .fields vs → a ∉ frs (X.env :: X.outer) := fun {h o vs} ff e dd hm => by
      obtain ⟨_, o', e', hnf⟩ := ff.mem hm
      rw [e] at e'
      cases e'
      exact hnf _ dd
    have nfr := notFr fl3.2.2.1 he3 hd3
    have nL : a ≠ X.env.locals := fun z => nfr (List.mem_filterMap.mpr ⟨X.env, List.mem_cons_self, by rw [hf, z]⟩)
    have nF : a ∉ X.fs := fun hm => by
      obtain ⟨e, he, q⟩ := List.mem_filterMap.mp hm
      exact nfr (List.mem_filterMap.mpr ⟨e, List.mem_cons_of_mem _ he, q⟩)
    -- the error is new to this def
    have nI : sI.heap.get? a = none := by
      cases e : sI.heap.get? a with
      | none => rfl
      | some o =>
        have z := nb a o e (by rw [hs]; exact nfr)
        have z2 : B.get? a = none := fl3.2.1
        rw [z2] at z
        cases z
    have n0 : X.s_0.heap.get? a = none := by
      cases e : X.s_0.heap.get? a with
      | none => rfl
      | some o =>
        obtain ⟨o', z⟩ := J.base.there a o e (by rw [hex]; exact fun z => nomatch z)
        rw [nI] at z
        cases z
    have npin : ∀ p ∈ X.pn ++ pins, p.1 ≠ a := fun p hp z => by
      obtain ⟨e, _⟩ := J.pin p hp
      rw [z, nI] at e
      cases e
    have S3 := J3.suite he3 hd3 na nL nF
    refine wpAny_handleBy_cons (codeAny_handlers_test ?_) (by intro q; cases q)
    have LT : PySem.W.Looks (model X.prog X.w) h3 (typeOf (.ref a)) cls := fun A Q E s k q => wpAny_typeOf_ref (k _ _ he3) (by rw [hz3.1]; exact q)
    have LM := PySem.W.exm_one (M := model X.prog X.w) (J3.kIn) LT hb1
    have test : ∀ {Q : Value → Shared → Prop} {E : Value → Shared → Prop}, Q c { s' with heap := h3 } → wpAny (model X.prog X.w) (X.A.mark (some (.ref a))) (eval (.Name x np) X.env) Q E { s' with heap := h3 } := fun {Q E} q => by
      obtain ⟨hg, hdbg, hm | ⟨hm, hv, hnn⟩⟩ := hc
      · exact ld_glob (X := X.suite a ((a, oe3) :: (X.pn ++ pins))) S3 hg hm q hdbg
      · exact ld_blt (X := X.suite a ((a, oe3) :: (X.pn ++ pins))) S3 hg hm hv q hnn hdbg
    refine test (LM.here ?_)
    cases b with
    | true =>
      refine codeAny_handlers_suite_as ?_
      refine HandSPX.lands_againZ fl3 fun h4 fl4 up4 => ?_
      have J4 : Inv X pins σ' H' { s' with heap := h4 } := J.landed nb fl4.1 ((up.trans up3).trans up4) os ag
      obtain ⟨oe4, vs4, he4, hz4, hd4⟩ := fl4.there
      have S4 := J4.suite he4 hd4 na nL nF
      refine store_ok (X := X.suite a ((a, oe4) :: (X.pn ++ pins))) (v := .ref a) S4 hN hi hloc rfl (fun s5 S5 => ?_) (.inr hln)
      refine wpAny_mono ((hsu a oe4 cls d (X.pn ++ pins) hz4 ⟨_, hd4⟩).run [] s5 _ H' _ S5 (hyes rfl a na)) (fun f s6 hsp => ?_) (fun _ _ z => False.elim z)
      have end_ : ∀ {σ6 : L2.St} {H6 : Hp} {Q : Shared → Prop}, Inv (X.suite a ((a, oe4) :: (X.pn ++ pins))) [] σ6 H6 s6 → (∀ s7, Inv X ((a, oe4) :: pins) (σ6.set i none) H6 s7 → Q s7) →
          wpAny (model X.prog X.w) X.A (do bindName X.env n .none; unbindBehindTheSuite X.env n pos') (fun _ s7 => Q s7) X.xe s6 := fun {σ6 H6 Q} S6 hq => by
        have J6 : Inv X ((a, oe4) :: pins) σ6 H6 s6 := (S6.unsuite ok).pins_of fun p hp => S6.pin p (List.mem_append_left _ (by
          rcases List.mem_cons.mp hp with z | z
          · exact List.mem_cons.mpr (.inl z)
          · exact List.mem_cons_of_mem _ (List.mem_append_right _ z)))
        exact gone_ok J6 hN hi hln hq
      have drop : ∀ {σ7 : L2.St} {H7 : Hp} {s7 : Shared}, Inv X ((a, oe4) :: pins) σ7 H7 s7 → Inv X pins σ7 H7 s7 := fun J7 => J7.pins_of fun p hp => J7.pin p (List.mem_append_right _ (List.mem_cons_of_mem _ hp))
      subst hcls
      cases f with
      | next =>
        obtain ⟨σ6, H6, S6, q6⟩ := hsp
        exact end_ S6 fun s7 J7 => ⟨_, _, track J7 n0 npin hz4 hd4, q6⟩
      | brk =>
        obtain ⟨σ6, H6, S6, q6⟩ := hsp
        exact end_ S6 fun s7 J7 => ⟨_, _, drop J7, q6⟩
      | cont =>
        obtain ⟨σ6, H6, S6, q6⟩ := hsp
        exact end_ S6 fun s7 J7 => ⟨_, _, drop J7, q6⟩
      | ret u =>
        obtain ⟨v6, σ6, H6, S6, r6, q6⟩ := hsp
        exact end_ S6 fun s7 J7 => ⟨_, _, _, drop J7, r6, q6⟩
    | false =>
      show wpAny _ X.A (handleBy (.ref a) X.env []) _ _ _
      refine wpAny_handleBy_nil ?_
      obtain ⟨k1, k2, k3, oe, vs, T, oT, ts', he, hz, hd, h1, hr⟩ := id fl3
      unfold PySem.passOn
      refine wpAny_bind (wpAny_field he hd h1 ?_)
      rw [if_neg (show ¬ ((Value.ref T == Value.none) = true) from by simp)]
      have fin : wpAny (model X.prog X.w) X.A (setFlight (.ref a) X.env.frame) (fun _ s4 => wpAny (model X.prog X.w) X.A (throw (.ref a) : Sem Flow) (SP X pins D) X.xe s4) X.xe { s' with heap := h3 } := by
        rw [hf]
        refine HandSPX.setFlight_upZ fl3 fun h4 hh4 up4 => wpAny_throw (tk _ _ ?_)
        exact ⟨a, B, sI, pins, σ', H', cls, d, rfl, J, nb, (up.trans up3).trans up4, .inr (.inr (by rw [hs]; exact hh4)), na, os, ag, hno rfl⟩
      first
        | exact wpAny_bind (wpAny_pure (wpAny_bind fin))
        | exact wpAny_bind fin
  · cases f with
    | next =>
      obtain ⟨σ', H', J', q⟩ := hsp
      exact wpAny_execs_nil ⟨σ', H', J'.ofTry ok, q⟩
    | brk =>
      obtain ⟨σ', H', J', q⟩ := hsp
      exact ⟨σ', H', J'.ofTry ok, q⟩
    | cont =>
      obtain ⟨σ', H', J', q⟩ := hsp
      exact ⟨σ', H', J'.ofTry ok, q⟩
    | ret u =>
      obtain ⟨v, σ', H', J', r, q⟩ := hsp
      exact ⟨v, σ', H', J'.ofTry ok, r, q⟩
end
end Tw
/-! Tw: instances of own classes: == and != by an own __eq__, str by an own __str__, made where __init__ may raise. -/
namespace Tw
open PySem PySem.Spec PyProof.Rows L2
/-- the type of anything that is known -/
def TyA (K : PySem.W.Frag) (H : Hp) (x : V) (t : Value) : Prop := TyX K H x t ∨ ∃ (a C : Addr) (d : Addr) (fs : List (Str × V)), x = .ref a ∧ t = .ref C ∧ IsX H a C (some d) ∧ IsXd H d fs ∧ XC K C ∧ XO K
section
variable {X : Cx} {CX : CXT} {pins : List (Addr × Obj)} {σ : L2.St} {H : Hp} {s : Shared} {k : Nat} {f C : Addr} {fd : FuncData} {ps : List Str} {sp : Sp} {E : XK}
theorem tyA_looks {x : V} {u t : Value} (I : Inv X pins σ H s) (r : RelV x u) (ty : TyA X.K H x t) (M : Model) : PySem.W.Looks M s.heap (typeOf u) t := by
  rcases ty with ty | ⟨a, C, d, fs, rfl, rfl, ia, idd, T, O⟩
  · obtain ⟨P, Z, p, _⟩ := kit_of I r ty
    exact Z.ty M s.heap I.kIn p
  · cases (show u = Value.ref a from r)
    obtain ⟨oe, vs, ho, hz, hdt⟩ := ia.get I.hok
    exact fun A Q E s k q => wpAny_typeOf_ref (k _ _ ho) (by rw [hz.1]; exact q)
theorem inst_at (I : Inv X pins σ H s) {a dx : Addr} {fs : List (Str × V)} (e : H a = some (.ins C dx fs)) : ∃ od ox, PySem.W.InstAt s.heap a ox C (some od) := by
  obtain ⟨mA, O, _⟩ := ins_get I.hok e
  obtain ⟨od, J, _⟩ := O.look
  exact ⟨od, _, J⟩
/-- a def run one deeper within a built-in -/
theorem run_in1 {Q : VK} {us : List Value} {vs : List V} (F : FnOk X.prog X.w X.K X.mg X.base CX k f fd ps sp) (hr : Room (k + 1) X.A) (hb : Binds X.K fd ps []) (hx : Passes CX X E) (I : Inv X pins σ H s) (r : Vals vs us) (h : sp vs H Q E) :
    wpAny (model X.prog X.w) X.A.in1 (call (.ref f) us) (EP X pins σ Q) X.xe s := by
  have hl : us.length = ps.length := r.length.symm.trans (F.len _ _ _ _ h)
  have b := hb s us I.kIn (by rw [List.append_nil]; exact hl)
  rw [List.append_nil] at b
  refine wpAny_call (codeAny_mono (F.run X.A.in1 X.stack s H ⟨us, []⟩ us vs Q E hr.in1 I.env0.in1 b r h) fun r s' hq => ?_)
  match r, hq with
  | .error e, hq => exact hx pins σ H s e s' I hq
  | .ok (.ret u), hq => exact I.after hq
theorem run_in2 {Q : VK} {us : List Value} {vs : List V} (F : FnOk X.prog X.w X.K X.mg X.base CX k f fd ps sp) (hr : Room (k + 2) X.A) (hb : Binds X.K fd ps []) (hx : Passes CX X E) (I : Inv X pins σ H s) (r : Vals vs us) (h : sp vs H Q E) :
    wpAny (model X.prog X.w) X.A.in1.in1 (call (.ref f) us) (EP X pins σ Q) X.xe s := by
  have hl : us.length = ps.length := r.length.symm.trans (F.len _ _ _ _ h)
  have b := hb s us I.kIn (by rw [List.append_nil]; exact hl)
  rw [List.append_nil] at b
  have hr1 : Room (k + 1) X.A.in1 := Room.in1 hr
  refine wpAny_call (codeAny_mono (F.run X.A.in1.in1 X.stack s H ⟨us, []⟩ us vs Q E hr1.in1 I.env0.in1.in1 b r h) fun r s' hq => ?_)
  match r, hq with
  | .error e, hq => exact hx pins σ H s e s' I hq
  | .ok (.ret u), hq => exact I.after hq
/-- x == y by x's own __eq__ -/
def rEqOwn (K : PySem.W.Frag) (C : Addr) (sp : Sp) (E : XK) : R2 := fun x y H Q => ∃ (a dx : Addr) (fs : List (Str × V)) (t : Value), x = .ref a ∧ H a = some (.ins C dx fs) ∧ TyA K H y t ∧ PySem.W.notFirst K C t = true ∧ sp [x, y] H Q E
theorem op_eqOwn (hs : PySem.W.findIn X.K (.ref C) "__eq__" = some (some (.ref f))) (hf : PySem.W.isFn X.K (.ref f) = true) (F : FnOk X.prog X.w X.K X.mg X.base CX k f fd ps sp) (hr : Room k X.A) (hb : Binds X.K fd ps []) (hx : Passes CX X E) : OpR X (compareOp .Eq) (rEqOwn X.K C sp E) := by
  intro pins s σ H x y v u Q I rx ry h
  obtain ⟨a, dx, fs, t, rfl, ea, ty, hn, q⟩ := h
  cases (show v = Value.ref a from rx)
  obtain ⟨od, ox, J⟩ := inst_at I ea
  obtain ⟨m, hF⟩ := I.fr
  show wpAny _ _ (richCompare .Eq _ _) _ _ _
  refine PySem.W.cmp_K (op := .Eq) (tb := t) hr.units0 hF I.ok.mod.kin J (tyA_looks I ry ty _) hn hs hf ?_
  refine wpAny_mono (run_fn (dvs := []) (ds := []) (us := [.ref a, u]) (vs := [.ref a, y]) F hr hb .nil hx I (.cons rfl (.cons ry .nil)) q) (fun w s' z => ?_) fun _ _ x => x
  obtain ⟨z', H', I', rz, qz⟩ := z
  exact SlX.cmpback rz ⟨z', H', I', rz, qz⟩
/-- x != y: object.__ne__ asks x's own __eq__ -/
def rNeOwn (K : PySem.W.Frag) (C : Addr) (sp : Sp) (E : XK) : R2 := fun x y H Q => ∃ (a dx : Addr) (fs : List (Str × V)) (t : Value), x = .ref a ∧ H a = some (.ins C dx fs) ∧ TyA K H y t ∧ PySem.W.notFirst K C t = true ∧ sp [x, y] H (fun z H' => ∃ b, z = .bl b ∧ Q (.bl (!b)) H') E
theorem ifBound_objNe {K : PySem.W.Frag} {M : Model} {A : Around} {E : Value → Shared → Prop} {s : Shared} {x : Addr} {ox : Obj} {od : Option Obj} {args : List Value} {Q : Option Value → Shared → Prop} (Y : K.In s.heap) (I : PySem.W.InstAt s.heap x ox C od) (hs : PySem.W.findIn K (.ref C) "__ne__" = some (some (.builtin "object.__ne__")))
    (h : wpAny M A (call (.builtin "object.__ne__") (.ref x :: args)) (fun v => Q (some v)) E s) : wpAny M A (callSpecialIfBound? (.ref x) "__ne__" args) Q E s := by
  simp only [callSpecialIfBound?, bindSpecialIfBound?]
  refine wpAny_holding (wpAny_bind (wpAny_bind (wpAny_bind (I.type.here ((PySem.W.looks_findIn Y hs).here ?_)))))
  refine wpAny_bind (wpAny_askSetting (wpAny_ite ?_))
  have fin : wpAny M A (call (.builtin "object.__ne__") ([.ref x] ++ args) >>= fun v => pure (some v)) Q E s := wpAny_bind (wpAny_mono h (fun v s' h' => wpAny_pure h') fun _ _ h' => h')
  split
  · exact wpAny_bind (wpAny_of_eq (F.cmp_object.ne.bind _) (wpAny_pure (by exact fin)))
  · exact wpAny_tryCatch (wpAny_bind (wpAny_of_eq (F.cmp_object.ne.bind _) (wpAny_pure (by exact fin))))
theorem ne_entry {K : PySem.W.Frag} {prog : Program} {w : World} {A : Around} {E : Value → Shared → Prop} {s : Shared} {x : Addr} {ox : Obj} {od : Option Obj} {b : Value} {Q : Fin → Shared → Prop} (hu : A.units < cLine) (Y : K.In s.heap) (I : PySem.W.InstAt s.heap x ox C od)
    (hs : PySem.W.findIn K (.ref C) "__eq__" = some (some (.ref f))) (hf : PySem.W.isFn K (.ref f) = true)
    (h : wpAny (model prog w) A (call (.ref f) [.ref x, b]) (fun v s' => ∃ c, v = .bool c ∧ Q (.done (.ret (.bool (!c)))) s') E s) : wpAny (model prog w) A (Builtin.«object.__ne__» ⟨[.ref x, b], []⟩) Q E s := by
  unfold Builtin.«object.__ne__»
  repeat (first
    | with_reducible refine wpAny_cRoomFor hu ?_
    | (refine wpAny_bind (m := callSpecialIfBound? (.ref x) (Str.ofString "__eq__") [b])
        (PySem.W.ifBound_K Y I hs hf (wpAny_mono h (fun r s' hr => by
          obtain ⟨b, rfl, hq⟩ := hr
          repeat (first | exact hq | exact wpAny_pure hq | exact wpAny_truthy_bool hq | (refine wpAny_bind (m := truthy (.bool _)) (wpAny_truthy_bool ?_)) | wp_step)) fun _ _ e => e)))
    | wp_step)
theorem ne_own {x : Addr} {ox : Obj} {od : Option Obj} {b tb : Value} {K : PySem.W.Frag} {prog : Program} {w : World} {A : Around} {E : Value → Shared → Prop} {s : Shared} {Q : Value → Shared → Prop} (hu : A.units + 1 < cLine) (Y : K.In s.heap) (I : PySem.W.InstAt s.heap x ox C od) (hb : PySem.W.Looks (model prog w) s.heap (typeOf b) tb) (hn : PySem.W.notFirst K C tb = true)
    (hne : PySem.W.findIn K (.ref C) "__ne__" = some (some (.builtin "object.__ne__"))) (hs : PySem.W.findIn K (.ref C) "__eq__" = some (some (.ref f))) (hf : PySem.W.isFn K (.ref f) = true) (hm : PySem.W.mroIn K C (.type "object") = some true)
    (h : wpAny (model prog w) A.in1 (call (.ref f) [.ref x, b]) (fun v s' => ∃ c, v = .bool c ∧ Q (.bool (!c)) s') E s) : wpAny (model prog w) A (richCompare .NotEq (.ref x) b) Q E s := by
  have one : wpAny (model prog w) A (tryCompare (.ref x) (cmpInfo .NotEq).2.1 b) (fun r s' => ∃ v, r = some v ∧ Q v s') E s := by
    unfold tryCompare
    refine wpAny_bind (ifBound_objNe Y I hne (wpAny_call (codeAny_call_builtin F.cmp_object.ne.plain F.cmpEntry_ne (PySem.W.check_slot F.cmpKind_ne F.cmpSplit_ne (I.type.andThen (PySem.W.looks_mroIn Y hm)) (F.cmpArgs_ne _ _)
      (ne_entry (A := A.in1) hu Y I hs hf (wpAny_mono h (fun v s' hv => ?_) fun _ _ e => e))))))
    obtain ⟨c, rfl, hq⟩ := hv
    first | exact ⟨c, rfl, wpAny_pure ⟨_, rfl, hq⟩⟩ | exact ⟨c, rfl, wpAny_pure (wpAny_pure ⟨_, rfl, hq⟩)⟩ | exact ⟨c, rfl, ⟨_, rfl, hq⟩⟩
  unfold richCompare
  simp only [oneThing_ref]
  refine wpAny_holding (wpAny_bind (wpAny_cRoomFor (Nat.lt_of_succ_lt hu) ?_))
  refine wpAny_bind (I.type.here (wpAny_bind (hb.here ?_)))
  split
  · rename_i q
    have e : PySem.W.subIn K tb (.ref C) = some false := by
      rcases Bool.or_eq_true_iff.mp hn with e | e
      · rw [beq_iff_eq.mp e] at q; simp at q
      · exact beq_iff_eq.mp e
    refine wpAny_bind ((PySem.W.looks_subIn Y e).here ?_)
    simp only [Bool.false_eq_true, if_false]
    refine wpAny_bind (wpAny_mono one (fun r s' z => ?_) fun _ _ e => e)
    obtain ⟨v, rfl, hq⟩ := z
    exact wpAny_pure hq
  · refine wpAny_bind (wpAny_pure ?_)
    simp only [Bool.false_eq_true, if_false]
    refine wpAny_bind (wpAny_mono one (fun r s' z => ?_) fun _ _ e => e)
    obtain ⟨v, rfl, hq⟩ := z
    exact wpAny_pure hq
theorem op_neOwn (hne : PySem.W.findIn X.K (.ref C) "__ne__" = some (some (.builtin "object.__ne__"))) (hs : PySem.W.findIn X.K (.ref C) "__eq__" = some (some (.ref f))) (hf : PySem.W.isFn X.K (.ref f) = true) (hm : PySem.W.mroIn X.K C (.type "object") = some true)
    (F : FnOk X.prog X.w X.K X.mg X.base CX k f fd ps sp) (hr : Room (k + 1) X.A) (hb : Binds X.K fd ps []) (hx : Passes CX X E) : OpR X (compareOp .NotEq) (rNeOwn X.K C sp E) := by
  intro pins s σ H x y v u Q I rx ry h
  obtain ⟨a, dx, fs, t, rfl, ea, ty, hn, q⟩ := h
  cases (show v = Value.ref a from rx)
  obtain ⟨od, ox, J⟩ := inst_at I ea
  show wpAny _ _ (richCompare .NotEq _ _) _ _ _
  refine ne_own (tb := t) (Nat.lt_of_le_of_lt (Nat.le_refl _) hr.in1.units0) I.kIn J (tyA_looks I ry ty _) hn hne hs hf hm ?_
  refine wpAny_mono (run_in1 F hr hb hx I (.cons rx (.cons ry .nil)) q) (fun w s' z => ?_) fun _ _ x => x
  obtain ⟨z', H', I', rz, b, rfl, qz⟩ := z
  exact ⟨b, rz, .bl (!b), H', I', rfl, qz⟩
/-- str(x) by x's own __str__ -/
def rStrOwn (C : Addr) (sp : Sp) (E : XK) : List V → Hp → VK → Prop := fun xs H Q => ∃ (a dx : Addr) (fs : List (Str × V)), xs = [.ref a] ∧ H a = some (.ins C dx fs) ∧ sp [.ref a] H (fun z H' => ∃ c, z = .str c ∧ Q z H') E
theorem call_strOwn (hs : PySem.W.findIn X.K (.ref C) "__str__" = some (some (.ref f))) (hf : PySem.W.isFn X.K (.ref f) = true) (F : FnOk X.prog X.w X.K X.mg X.base CX k f fd ps sp) (hr : Room (k + 2) X.A) (hb : Binds X.K fd ps []) (hx : Passes CX X E) : CallR X (.type "str") (rStrOwn C sp E) := by
  intro pins s σ H xs us Q I r h
  obtain ⟨a, dx, fs, rfl, ea, q⟩ := h
  obtain ⟨u1, rfl, r1⟩ := vals1 r
  cases (show u1 = Value.ref a from r1)
  obtain ⟨od, ox, J⟩ := inst_at I ea
  have hr1 : Room (k + 1) X.A.in1 := Room.in1 hr
  refine PySem.W.kso_call hr1.in1.units0 I.kIn J hs hf ?_
  refine wpAny_mono (run_in2 F hr hb hx I (.cons r1 .nil) q) (fun w s' z => ?_) fun _ _ x => x
  obtain ⟨z', H', I', rz, c, ez, qz⟩ := z
  subst ez
  obtain ⟨t, rfl⟩ := rz
  exact ⟨.str c, H', I', ⟨_, rfl⟩, qz⟩
end
end Tw
/-! Tw: a text times a number; an object made where its __init__ may raise into a try. -/
namespace Tw
open PySem PySem.Spec PyProof.Rows L2
section
variable {X : Cx} {CX : CXT} {k : Nat} {f C : Addr} {fd : FuncData} {ps : List Str} {sp : Sp} {E : L2.St → XK} {x : Str} {p pos : Pos} {e : Expr} {es : List Expr} {t : TA}
theorem op_mul_str : OpR X (binaryOp .Mult) (fun x y H Q => ∃ (z : Str) (n : Int), x = .str z ∧ y = .int n ∧ MulOk z n ∧ Q (.str (Txt.mul z n)) H) := by
  intro pins s σ H x y v u Q I rx ry h
  obtain ⟨z, n, rfl, rfl, ok, q⟩ := h
  obtain ⟨t, rfl⟩ := rx
  obtain ⟨t', rfl⟩ := ry
  exact SB.mul ok fun t' tk => ⟨.str (Txt.mul z n), H, I.tok _, ⟨_, rfl⟩, q⟩
/-- C(..) where C.__init__ may raise -/
def tMakeS (C : Addr) (sp : Sp) (E : L2.St → XK) (t : TA) : TE := fun σ H Q => t σ H fun vs H1 => ∀ x dx, H1 x = none → H1 dx = none → dx ≠ x →
  sp (.ref x :: vs) (upd (upd H1 dx (.own x)) x (.ins C dx [])) (fun v H2 => v = .non ∧ Q (.ref x) H2) (E σ)
theorem run_makeS {pins : List (Addr × Obj)} {σ : L2.St} {H : Hp} {s : Shared} {Q : VK} {us : List Value} {vs : List V} (M : Mk X.K C f) (F : FnOk X.prog X.w X.K X.mg X.base CX k f fd ps sp) (hr : Room (k + 1) X.A) (hb : Binds X.K fd ps [])
    (hx : PassesAt CX X σ (E σ)) (I : Inv X pins σ H s) (r : Vals vs us)
    (h : ∀ x dx, H x = none → H dx = none → dx ≠ x → sp (.ref x :: vs) (upd (upd H dx (.own x)) x (.ins C dx [])) (fun v H2 => v = .non ∧ Q (.ref x) H2) (E σ)) :
    wpAny (model X.prog X.w) X.A (call (.ref C) us) (EP X pins σ Q) X.xe s := by
  have hq := h (s.heap.objs.size + 1) s.heap.objs.size (I.hok.fresh (Nat.le_succ _)) (I.hok.fresh (Nat.le_refl _)) (Nat.ne_of_lt (Nat.lt_succ_self _))
  have I2 := Inv.made (C := C) I
  have r2 : Vals (V.ref (s.heap.objs.size + 1) :: vs) (Value.ref (s.heap.objs.size + 1) :: us) := .cons rfl r
  have hl : (Value.ref (s.heap.objs.size + 1) :: us).length = ps.length := by
    have e := r2.length
    rw [F.len _ _ _ _ hq] at e
    exact e.symm
  have b := hb _ (Value.ref (s.heap.objs.size + 1) :: us) I2.kIn (by rw [List.append_nil]; exact hl)
  rw [List.append_nil] at b
  refine wpAny_call (make_map (f := f) I.kIn M.makes M.init (beq_iff_eq.mp M.fn) (codeAny_mono (F.run _ X.stack _ _ ⟨Value.ref (s.heap.objs.size + 1) :: us, []⟩ (Value.ref (s.heap.objs.size + 1) :: us) _ _ (E σ) (hr.make C us [])
    (I2.env0.make C us []) b r2 hq) fun r s' hq' => ?_))
  cases r with
  | error e => exact hx pins _ _ e s' I2 hq'
  | ok fl =>
    cases fl with
    | ret u =>
      obtain ⟨v, H', I3, rv, ev, q3⟩ := I2.after hq'
      subst ev
      exact ⟨rv, ⟨V.ref (s.heap.objs.size + 1), H', I3, rfl, q3⟩⟩
    | next => exact False.elim hq'
    | brk => exact False.elim hq'
    | cont => exact False.elim hq'
theorem pe_makeS (M : Mk X.K C f) (F : FnOk X.prog X.w X.K X.mg X.base CX k f fd ps sp) (hr : Room (k + 1) X.A) (hg : Gl X x) (hm : X.mg x = some (.ref C)) (hb : Binds X.K fd ps []) (hx : ∀ σ, PassesAt CX X σ (E σ))
    (ha : PA X (e :: es) t) (hdb : (x == ("__debug__" : Str)) = false := by decide) (he : starEach (e :: es) X.env = (false, eval e X.env) :: starEach es X.env := by rfl) (hpl : (backTo pos (starEach es X.env)).any (·.1) = false := by rfl) :
    PE X (.Call (.Name x p) (e :: es) [] pos) (tMakeS C sp E t) := by
  refine ⟨fun pins s σ H Q I h => ?_⟩
  refine wpAny_Call_Name_kw (ld_glob I hg hm ?_ hdb)
  refine PySem.W.callWith_K (h₀ := X.base) I.ok.mod.kin M.kp (thn (ha.run pos pins s σ H _ I h) fun us s1 ⟨vs, H1, I1, r, q⟩ => ⟨I1.kIn, ?_⟩) he hpl
  exact run_makeS M F hr hb (hx σ) I1 r q
end
/-- a comprehension over a text, sign by sign -/
theorem lcStr {z : Str} {g : TG} {tt : TT} {te : TE} {ws : List Nat} {ρ : L2.St} {G : Hp} {D : Addr} {R : Hp → Prop} (P : Nat → Hp → Prop) (first : P 0 (upd G D (.lst [])))
    (step : ∀ i c H, z.cps[i]? = some c → P i H → g (.str ⟨#[c]⟩) (wipe ρ ws) H fun σ2 H2 => wipe σ2 ws = wipe ρ ws ∧ tt σ2 H2 fun b H3 => if b = true then te σ2 H3 fun y H4 => ∃ acc, H4 D = some (.lst acc) ∧ acc.length < sizeLine ∧ P (i + 1) (upd H4 D (.lst (acc ++ [y]))) else P (i + 1) H3)
    (last : ∀ H, P z.cps.size H → R H) :
    ∃ W : Nat → Nat → Hp → Prop, (∃ m, W 0 m (upd G D (.lst []))) ∧ ∀ i m H, W i m H → ((Its z).stop i H ∧ R H) ∨ ((Its z).go i H ∧ ∃ Nx : Hp → Prop, (∀ H', Nx H' → ∃ m', m' < m ∧ W (i + 1) m' H') ∧ ∀ x H', (Its z).yld i H x H' →
      g x (wipe ρ ws) H' fun σ2 H2 => wipe σ2 ws = wipe ρ ws ∧ tt σ2 H2 fun b H3 => if b = true then te σ2 H3 fun y H4 => ∃ acc, H4 D = some (.lst acc) ∧ acc.length < sizeLine ∧ Nx (upd H4 D (.lst (acc ++ [y]))) else Nx H3) := by
  refine ⟨fun i m H => m = z.cps.size - i ∧ i ≤ z.cps.size ∧ P i H, ⟨_, rfl, Nat.zero_le _, first⟩, ?_⟩
  rintro i m H ⟨rfl, hi, p⟩
  rcases Nat.lt_or_ge i z.cps.size with lt | ge
  · refine .inr ⟨lt, P (i + 1), fun H' p' => ⟨_, Nat.sub_succ_lt_self _ _ lt, rfl, lt, p'⟩, fun x H' ⟨e, c, ec, ex⟩ => ?_⟩
    subst e ex
    exact step i c _ ec p
  · exact .inl ⟨ge, last H (Nat.le_antisymm hi ge ▸ p)⟩
/-- values whose class is a built-in one -/
inductive Bv (H : Hp) : V → String → Prop where
  | non : Bv H .non "NoneType"
  | bl (b : Bool) : Bv H (.bl b) "bool"
  | int (i : Int) : Bv H (.int i) "int"
  | str (z : Str) : Bv H (.str z) "str"
  | lst {a : Addr} {xs : List V} (e : H a = some (.lst xs)) : Bv H (.ref a) "list"
  | tup {a : Addr} {xs : List V} (e : H a = some (.tup xs)) : Bv H (.ref a) "tuple"
  | dK {a : Addr} {kvs : List (Key × V)} (e : H a = some (.dK kvs)) : Bv H (.ref a) "dict"
theorem Bv.ty {K : PySem.W.Frag} {H : Hp} {x : V} {T : String} (h : Bv H x T) : TyX K H x (.type T) := by
  cases h with
  | non => exact .base .non
  | bl b => exact .base (.bl b)
  | int i => exact .base (.int i)
  | str z => exact .base (.str z)
  | lst e => exact .base (.lst e)
  | tup e => exact .base (.tup e)
  | dK e => exact .base (.dK e)
theorem Bv.same {H H' : Hp} {x : V} {T : String} (s : Same H H') (h : Bv H x T) : Bv H' x T := by
  cases h with
  | non => exact .non
  | bl b => exact .bl b
  | int i => exact .int i
  | str z => exact .str z
  | lst e => exact .lst (s _ _ e)
  | tup e => exact .tup (s _ _ e)
  | dK e => exact .dK (s _ _ e)
def isI : V → Bool
  | .int _ => true
  | _ => false
def isB : V → Bool
  | .bl _ => true
  | _ => false
def isS : V → Bool
  | .str _ => true
  | _ => false
/-- isinstance against a built-in class, by the value -/
theorem Bv.kits {K : PySem.W.Frag} {H : Hp} {x : V} {T : String} (h : Bv H x T) : PySem.W.kitOne K (.type T) (.type "str") = some (isS x) ∧ PySem.W.kitOne K (.type T) (.type "bool") = some (isB x) ∧ PySem.W.kitOne K (.type T) (.type "int") = some (isI x || isB x) := by
  cases h with
  | non => exact ⟨kit_ty (r := false) (by decide +kernel), kit_ty (r := false) (by decide +kernel), kit_ty (r := false) (by decide +kernel)⟩
  | bl b => exact ⟨kit_ty (r := false) (by decide +kernel), kit_ty (r := true) (by decide +kernel), kit_ty (r := true) (by decide +kernel)⟩
  | int i => exact ⟨kit_ty (r := false) (by decide +kernel), kit_ty (r := false) (by decide +kernel), kit_ty (r := true) (by decide +kernel)⟩
  | str z => exact ⟨kit_ty (r := true) (by decide +kernel), kit_ty (r := false) (by decide +kernel), kit_ty (r := false) (by decide +kernel)⟩
  | lst e => exact ⟨kit_ty (r := false) (by decide +kernel), kit_ty (r := false) (by decide +kernel), kit_ty (r := false) (by decide +kernel)⟩
  | tup e => exact ⟨kit_ty (r := false) (by decide +kernel), kit_ty (r := false) (by decide +kernel), kit_ty (r := false) (by decide +kernel)⟩
  | dK e => exact ⟨kit_ty (r := false) (by decide +kernel), kit_ty (r := false) (by decide +kernel), kit_ty (r := false) (by decide +kernel)⟩
end Tw
/-! Tw: a method called by keywords alone. -/
namespace Tw
open PySem PySem.Spec PyProof.Rows L2
section
variable {K : PySem.W.Frag} {x qual : Str} {params : Arguments} {body : List Stmt} {scope : Scope} {f : Addr} {fd : FuncData} {ps : List Str}
theorem kbNone (F : FunD K x qual params body scope [] [] f fd) (n : Nat) (ks : List Str)
    (h : ∀ (kV doc pm : Value) (an : Option Addr) (cdv ct : Value) (us ws : List Value), us.length = n → ws.length = ks.length → bindArgs (PySem.W.fnOf x qual params body scope .none kV doc pm an cdv ct) ⟨us, ks.zip ws⟩ = pure (ps.zip (us ++ ws))) :
    KBn K fd ps n ks (fun us ws => us ++ ws) (fun vs zs => vs ++ zs) := by
  obtain ⟨oc, od, dV, kV, doc, pm, an, cdv, ct, osl, rfl, lk, hcd, hD, hK⟩ := F.ex
  rcases hD with ⟨_, rfl⟩ | ⟨e, _⟩
  · exact ⟨fun s us ws X l1 l2 => .of_eq (h kV doc pm an cdv ct us ws l1 l2), fun r1 r2 => r1.append r2⟩
  · exact absurd rfl e
end
/-- o.m(k = v, ..) -/
def tMethN (C : Addr) (m : Str) (n : Nat) (sp : Sp) (gV : List V → List V → List V) (E : XK) (ta : TE) (tk : TA) : TE := fun σ H Q => ta σ H fun x H1 => ∃ (a dx : Addr) (fs : List (Str × V)), x = .ref a ∧ H1 a = some (.ins C dx fs) ∧ fs.lookup m = none ∧
  tk σ H1 fun zs H2 => zs.length = n ∧ sp (gV [.ref a] zs) H2 Q E
section
variable {X : Cx} {CX : CXT} {k : Nat} {f C : Addr} {fd : FuncData} {ps ks : List Str} {sp : Sp} {E : XK} {m : Str} {pos apos : Pos} {o : Expr} {kws : List Keyword} {ta : TE} {tk : TA} {g : List Value → List Value → List Value} {gV : List V → List V → List V}
theorem pe_methN {pl : Sem Bool} (he : PE X o ta) (c : Cls X.K C) (hm : Meth X.K C m f) (F : FnOk X.prog X.w X.K X.mg X.base CX k f fd ps sp) (hr : Room k X.A) (hb : KBn X.K fd ps 1 ks g gV) (hx : Passes CX X E) (hkw : PK X kws tk)
    (hall : (backToKw pos (keywordEach kws X.env)).all (·.1.isSome) = true := by rfl) (hks : (backToKw pos (keywordEach kws X.env)).filterMap (·.1) = ks := by rfl)
    (hpl : ((backTo pos (starEach [] X.env)).any (·.1) || (backToKw pos (keywordEach kws X.env)).any (·.1.isNone)) = false := by rfl)
    (ht : eval (.Call (.Attribute o m apos) [] kws pos) X.env = (do
      let v ← eval o X.env
      standAt apos.atName
      let (h, front) ← holding [v] (getMethod v m pl)
      callWith pos h front (backTo pos (starEach [] X.env)) (backToKw pos (keywordEach kws X.env))) := by rfl) :
    PE X (.Call (.Attribute o m apos) [] kws pos) (tMethN C m ks.length sp gV E ta tk) := by
  refine ⟨fun pins s σ H Q I h => ?_⟩
  refine PySem.W.methodCall_KW (pl := pl) (thn (he.run pins s σ H _ I h) fun u s1 ⟨x, H1, I1, rx, a, dx, fs, ex, ea, l, q⟩ => ?_) ht
  subst ex
  cases (show u = Value.ref a from rx)
  refine getmeth_ok I1 ea c hm l ?_
  refine PySem.W.callWith_KW0 (h₀ := X.base) (first := [.ref a]) I1.ok.mod.kin hm.kp hall (thn (hkw.run pos pins s1 σ H1 _ I1 q) fun ws s2 ⟨zs, H2, I2, rz, l2, q2⟩ => ⟨I2.kIn, ?_⟩) hpl
  rw [hks]
  exact run_fnN (us := [.ref a]) (vs := [.ref a]) F hr hb hx I2 (.cons rx .nil) rz rfl l2 q2
end
/-- == by an own __eq__, where the context is a comprehension's: what it knows is named -/
theorem eqOwnK {X : Cx} {CX : CXT} {k : Nat} {f C : Addr} {fd : FuncData} {ps : List Str} {sp : Sp} {E : XK} (P : Program) (w : World) (K : PySem.W.Frag) (mg : Str → Option Value) (base : Heap) (hs : PySem.W.findIn K (.ref C) "__eq__" = some (some (.ref f))) (hf : PySem.W.isFn K (.ref f) = true)
    (F : FnOk P w K mg base CX k f fd ps sp) (hr : Room k X.A) (hb : Binds K fd ps []) (hx : Passes CX X E) (e1 : X.prog = P := by rfl) (e2 : X.w = w := by rfl) (e3 : X.K = K := by rfl) (e4 : X.mg = mg := by rfl) (e5 : X.base = base := by rfl) : OpR X (compareOp .Eq) (rEqOwn K C sp E) := by
  subst e1 e2 e3 e4 e5
  exact op_eqOwn hs hf F hr hb hx
/-! lists of bools -/
theorem dpBools {K : PySem.W.Frag} {H : Hp} : ∀ bs : List Bool, DpAll K H (bs.map V.bl) (bs.map PyData.bool)
  | [] => .nil
  | b :: bs => .cons (.bl b) (dpBools bs)
theorem layBools : ∀ bs : List Bool, PyData.canLayAll0 (bs.map PyData.bool) = true ∧ PyData.depthAll (bs.map PyData.bool) = 0
  | [] => ⟨rfl, rfl⟩
  | b :: bs => by
    obtain ⟨h1, h2⟩ := layBools bs
    constructor
    · simp only [List.map_cons, PyData.canLayAll0, PyData.canLay0, h1, Bool.and_self]
    · simp only [List.map_cons, PyData.depthAll, PyData.depth, h2, Nat.max_self]
theorem shapedBools (bs : List Bool) : SeqAt.shaped (.list (bs.map PyData.bool)) = true := by
  obtain ⟨h1, h2⟩ := layBools bs
  simp [SeqAt.shaped, PyData.canLay0, PyData.depth, h1, h2]
theorem eqvBools (bs : List Bool) : PyData.eqv (.list (bs.map PyData.bool)) (.list (bs.map PyData.bool)) = true :=
  SeqAt.eqv_refl _ (by simpa [PyData.canLay0] using (layBools bs).1)
theorem ifSame {d : PyData} {A B : Prop} (h : PyData.eqv d d = true) (b : B) : if (!PyData.eqv d d) = true then A else B := by
  rw [h]
  exact iteF b
theorem mildBools : ∀ bs : List Bool, mildAll (bs.map PyData.bool) = true ∧ capAll (bs.map PyData.bool) ≤ 100 * bs.length
  | [] => ⟨rfl, Nat.le_refl _⟩
  | b :: bs => by
    obtain ⟨h1, h2⟩ := mildBools bs
    constructor
    · simp only [List.map_cons, mildAll, mild, h1, Bool.and_self]
    · simp only [List.map_cons, capAll, List.length_cons]
      have : cap (.bool b) ≤ 90 := by cases b <;> decide
      omega
end Tw
/-! Tw: enumerate over a list, a tuple, an own object that gives a tuple's iterator. -/
namespace Tw
open PySem PySem.Spec PyProof.Rows L2
/-- pairs (number, item), the items as G tells them -/
def IteG (G : Hp → List V → Prop) : It := ⟨fun i H => ∃ (xs : List V) (x : V), G H xs ∧ xs[i]? = some x,
  fun i H v H' => ∃ (T : Addr) (x : V), v = .ref T ∧ H T = none ∧ H' = upd H T (.tup [.int (i : Nat), x]) ∧ ∀ xs, G H xs → xs[i]? = some x, fun i H => ∃ xs : List V, G H xs ∧ i = xs.length⟩
theorem turnL {P : Program} {w : World} {K : PySem.W.Frag} {elts : List Expr} {kk : Nat} {tpos : Pos} (a e it : Addr) :
    Turn P w K (.Tuple elts kk tpos) (IteG fun H xs => SqL K H a xs) [e, it] e (fun i h => (∃ old, IsEnum h e it ((i : Nat) : Int) old) ∧ h.IsListIter it a i ∧ e ≠ it) :=
  let T := turn_enum (P := P) (w := w) (K := K) (elts := elts) (kk := kk) (tpos := tpos) a e it
  ⟨T.mem, T.obj, T.keep, T.item, fun X h1 h2 h3 h4 i pins s σ H E I hf st ⟨xs, g, hx⟩ => T.done X h1 h2 h3 h4 i pins s σ H E I hf st ⟨xs, g, Nat.le_of_eq hx.symm⟩, T.self⟩
theorem turnT {P : Program} {w : World} {K : PySem.W.Frag} {elts : List Expr} {kk : Nat} {tpos : Pos} (a e it : Addr) :
    Turn P w K (.Tuple elts kk tpos) (IteG fun H xs => SqT K H a xs) [e, it] e (fun i h => (∃ old, IsEnum h e it ((i : Nat) : Int) old) ∧ h.IsTupleIter it a i ∧ e ≠ it) where
  mem := List.mem_cons_self
  obj := fun i h ⟨⟨old, he⟩, ⟨o, ho, hc, hd⟩, _⟩ b hb => by
    rcases List.mem_cons.mp hb with z | z
    · exact z ▸ ⟨_, he, fun v q => nomatch q⟩
    · rw [List.mem_singleton.mp z]
      exact ⟨o, ho, fun v q => by
        rw [hd] at q
        cases q⟩
  keep := fun i h h' ⟨⟨old, he⟩, hi, hne⟩ k => ⟨⟨old, k e List.mem_cons_self _ he⟩, hi.at fun o q => k it (List.mem_cons_of_mem _ List.mem_cons_self) o q, hne⟩
  item := by
    intro X e1 e2 e3 hc i pins s σ H E I hf ⟨⟨old, he⟩, hit, hne⟩ ⟨xs, x, hq, hx⟩
    subst e1 e2 e3
    obtain ⟨its, rv, p, hz⟩ := I.tuple hq
    obtain ⟨u, hu, ru⟩ := rv.get hx
    have hel : e < s.heap.objs.size := Heap.lt_size he
    have hil : it < s.heap.objs.size := by
      obtain ⟨_, q, _⟩ := hit
      exact Heap.lt_size q
    have hta : a ≠ it := fun z => by
      obtain ⟨o, q, c, _⟩ := hit
      obtain ⟨o', q', c', _⟩ := p
      rw [z, q] at q'
      cases q'
      rw [c] at c'
      exact absurd c' (by decide)
    have hea : e ≠ a := fun z => by
      obtain ⟨o', q', c', _⟩ := p
      rw [← z, show s.heap.get? e = _ from he] at q'
      cases q'
      exact absurd (Value.type.inj c') (by decide)
    have hlt : i < its.toArray.size := by
      rw [List.size_toArray]
      exact (List.getElem?_eq_some_iff.mp hu).1
    refine wpAny_pyNext_enum_itemC (Draws.tuple (A := X.A.in1) (I.ok.hd hc) it a hta its.toArray) he ⟨hit, p⟩ hlt hne (fun hm => ?_) fun y h1 tk py ho st1 hT hsz hk => ?_
    · rcases List.mem_cons.mp hm with z | z
      · exact hne z
      · exact hea (List.mem_singleton.mp z)
    · have ey : y = u := by
        have q : its.toArray[i]? = some y := py
        rw [List.getElem?_toArray, hu] at q
        exact (Option.some.inj q).symm
      subst ey
      refine ⟨_, rfl, wpAny_letOwnedTupleGo_enum (s := { s with heap := h1, toks := tk + 1 }) ho fun h2 he2 sb => ?_⟩
      have hT2 : h2.get? s.heap.objs.size = some { cls := .type "tuple", data := .seq #[.int i tk, y] } := (sb.2 _ (Nat.ne_of_gt hel)).trans hT
      have ok : ObjOk X.prog X.w (upd H s.heap.objs.size (.tup [.int (i : Nat), x])) h2 s.heap.objs.size (.tup [.int (i : Nat), x]) := ⟨(by show 2 ≤ sizeLine; decide), [.int i tk, y], .cons ⟨_, rfl⟩ (.cons ru .nil), ⟨_, hT2, rfl, _, rfl⟩⟩
      have I1 : Inv X pins σ (upd H s.heap.objs.size (.tup [.int (i : Nat), x])) { s with heap := h2, toks := tk + 1 } := I.turnedNew (ch := [e, it]) (fun b ob hb q => by
        have b1 : b ≠ e := fun z => hb (z ▸ List.mem_cons_self)
        have b2 : b ≠ it := fun z => hb (z ▸ List.mem_cons_of_mem _ List.mem_cons_self)
        exact (sb.2 b b1).trans (hk b ob b1 b2 q)) hf (Nat.le_refl _) ok
      refine ⟨.ref s.heap.objs.size, _, I1, rfl, ⟨_, x, rfl, I.hok.fresh (Nat.le_refl _), rfl, fun ys hy => I.tuple_inj hy hq ▸ hx⟩, ⟨⟨y, ?_⟩, st1.1.at fun o q => (sb.2 it hne.symm).trans q, hne⟩, fun b hb => ?_⟩
      · rw [show ((i + 1 : Nat) : Int) = (i : Int) + 1 by omega]
        exact he2
      · have lt : b < s.heap.objs.size := by
          rcases List.mem_cons.mp hb with z | z
          · exact z ▸ hel
          · exact (List.mem_singleton.mp z) ▸ hil
        rw [upd_ne (Nat.ne_of_lt lt)]
        exact (hf b hb).1
  done := by
    intro X e1 e2 e3 hc i pins s σ H E I hf ⟨⟨old, he⟩, hit, hne⟩ ⟨xs, hq, hx⟩
    subst e1 e2 e3
    obtain ⟨its, rv, p, hz⟩ := I.tuple hq
    have hta : a ≠ it := fun z => by
      obtain ⟨o, q, c, _⟩ := hit
      obtain ⟨o', q', c', _⟩ := p
      rw [z, q] at q'
      cases q'
      rw [c] at c'
      exact absurd c' (by decide)
    have hn : its.toArray.size = i := by
      rw [List.size_toArray, ← rv.length, hx]
    have D := Draws.tuple (prog := X.prog) (w := X.w) (A := X.A.in1) (I.ok.hd hc) it a hta its.toArray
    rw [hn] at D
    obtain ⟨f0, f1, f2, f3, f4, f5⟩ := hf it (List.mem_cons_of_mem _ List.mem_cons_self)
    exact wpAny_pyNext_enum_endD D he ⟨hit, p⟩ fun h' eb => ⟨rfl, I.turned (t' := s.toks) (fun b o hb q => eb b o hb q) f0 f1 f3 f4 f5⟩
  self := fun A i s Q E ⟨⟨_, he⟩, _⟩ h => wpAny_pyIter_enum he h
end Tw
/-! Tw: walking an own object whose __iter__ returns a tuple's iterator. -/
namespace Tw
open PySem PySem.Spec PyProof.Rows L2 ItX
/-- at it: an iterator of the tuple at t, before its item i -/
def ItT (t it : Addr) (i : Nat) : HO := .ext fun h => h.IsTupleIter it t i
theorem itT_ok {P : Program} {w : World} {H : Hp} {h : Heap} {t it : Addr} {i : Nat} (e : h.IsTupleIter it t i) : ObjOk P w H h it (ItT t it i) := ⟨e, ⟨_, e.choose_spec.1⟩, fun h1 h2 q k => q.at fun o z => k _ z⟩
theorem itT_get {X : Cx} {pins : List (Addr × Obj)} {σ : L2.St} {H : Hp} {s : Shared} {t it : Addr} {i : Nat} (I : Inv X pins σ H s) (e : H it = some (ItT t it i)) : s.heap.IsTupleIter it t i := (I.hok it _ e).1
/-- iter(t), t a tuple: a young iterator -/
def rIterT (K : PySem.W.Frag) (n : Nat) : List V → Hp → VK → Prop := fun xs H Q => ∃ (t : Addr) (zs : List V), xs = [.ref t] ∧ SqT K H t zs ∧ ∀ it H', H it = none → n ≤ it → Same H H' → H' it = some (ItT t it 0) → Q (.ref it) H'
theorem call_iterT {X : Cx} : CallR X (.builtin "iter") (rIterT X.K X.s_0.heap.objs.size) := by
  intro pins s σ H xs us Q I r h
  obtain ⟨t, zs, rfl, hq, q⟩ := h
  obtain ⟨u, rfl, ru⟩ := vals1 r
  cases (show u = Value.ref t from ru)
  obtain ⟨its, rv, pl, hz⟩ := I.tuple hq
  refine Calls.call_function_entry (by decide +kernel) (by decide +kernel) PySem.W.kdk_entry_iter (PySem.W.kdk_args_iter _) ?_
  unfold Builtin.«iter»
  refine wpAny_bind (m := someArgs "iter" 1 2 _) (wpAny_of_eq (a := [Value.ref t]) (by first | rfl | kernel_rfl!) ?_)
  show wpAny _ _ (pyIter (.ref t) >>= _) _ _ _
  refine wpAny_bind (wpAny_pyIter_tuple (show s.heap.IsTuple t its.toArray from pl) (wpAny_pure ⟨_, rfl, ?_⟩))
  have hf := I.hok.fresh (Nat.le_refl s.heap.objs.size)
  have new : (s.heap.push { cls := .type "tuple_iterator", data := .fields #[.ref t, .int 0 0] }).IsTupleIter s.heap.objs.size t 0 := ⟨_, Heap.get?_push_size _ rfl, rfl, rfl⟩
  exact ⟨.ref s.heap.objs.size, upd H s.heap.objs.size (ItT t s.heap.objs.size 0), I.laid (t' := s.toks) (fun b u e => Heap.get?_push_of_some _ e) (Nat.le_refl _) (itT_ok new), rfl, q _ _ hf I.sz (same_new hf) upd_same⟩
/-- a def's promise that knows how many objects there are when it is called -/
structure FnN (P : Program) (w : World) (K : PySem.W.Frag) (mg : Str → Option Value) (base : Heap) (CX : CXT) (k : Nat) (f : Addr) (fd : FuncData) (ps : List Str) (sp : Nat → Sp) : Prop where
  len : ∀ n vs H Q E, sp n vs H Q E → vs.length = ps.length
  run : ∀ (A : Around) (outer : List Env) (s : Shared) (H : Hp) (args : Args) (us : List Value) (vs : List V) (Q : VK) (E : XK), Room k A → Env0 P w K mg base A outer s H →
    BindsTo s fd args (ps.zip us) → Vals vs us → sp s.heap.objs.size vs H Q E → codeAny (model P w) A (.call (.ref f) args) (CR CX outer P w H s Q E) s
theorem _root_.L2.FunD.okN {P : Program} {w : World} {K : PySem.W.Frag} {mg : Str → Option Value} {base : Heap} {CX : CXT} {x qual : Str} {params : Arguments} {body : List Stmt} {scope : Scope} {dvs : List V} {kws : List (Str × V)} {f : Addr} {fd : FuncData} {N ps : List Str} {k : Nat} {sp : Nat → Sp}
    (F : FunD K x qual params body scope dvs kws f fd) (S : FnScope N ps scope) (len : ∀ n vs H Q E, sp n vs H Q E → vs.length = ps.length)
    (hbody : ∀ (cdv : Value) (A : Around) (outer : List Env) (s : Shared) (H : Hp) (vs : List V) (Q : VK) (E : XK), Room k (A.deeper (envOfC qual scope s.heap.objs.size f cdv)) → sp s.heap.objs.size vs H Q E →
      ∃ t, PSs (cxOf CX P w K mg base N qual scope f cdv A outer s H E) body t ∧ t { nx := fun _ H' => Q .non H', rt := Q } (L2.start N vs) H) : FnN P w K mg base CX (k + 1) f fd ps sp := by
  obtain ⟨oc, od, dV, kV, doc, pm, an, cdv, ct, osl, rfl, lk, hcd, _, _⟩ := F.ex
  refine ⟨len, fun A outer s H args us vs Q E hr e0 hb r hsp => ?_⟩
  have at0 : ∀ b o, base.get? b = some o → s.heap.get? b = some o := fun b o e => (e0.bs b o e).1
  have hkind : ∀ y ∈ ps.zip us, scope.names.lookup y.1 = some .local ∨ (scope.names.lookup y.1 = some .cell ∧ ((cellsFrom (s.heap.objs.size + 1) scope.names []).lookup y.1).isSome = true) := by
    rintro ⟨n, v⟩ hy
    rcases S.par n (List.of_mem_zip hy).1 with q | q
    · exact .inl q
    · exact .inr ⟨q, PySem.W.cellsFrom_some _ _ _ (.inl q)⟩
  refine codeAny_call_function hr.depth ((e0.mod.kin.keeps at0) _ _ lk) rfl S.co S.gen rfl (PySem.W.codeRec_of (e0.mod.kin.keeps at0) hcd) (hb _ _ _ _ ?_)
  refine wpAny_newFunctionEnv_cells S.kind hkind fun env he s1 x => ?_
  subst he
  refine ⟨(e0.mod.nolimit.keeps at0).keeps x.toInCall.keep, codeAny_func ?_⟩
  obtain ⟨t, ht, hq⟩ := hbody cdv A outer s H vs Q E (hr.deeper _) hsp
  refine wpAny_mono (ht.run [] s1 (L2.start N vs) H _ (inv_start S hr.hd e0 (len _ _ _ _ _ hsp) r x) hq) (fun fl s' hs => ?_) fun e s' hs => hs
  cases fl with
  | ret u =>
    obtain ⟨v, σ', H', J, rv, q⟩ := hs
    exact ⟨v, H', J.os, J.bare, J.base, J.hok, rv, q⟩
  | next =>
    obtain ⟨σ', H', J, q⟩ := hs
    exact ⟨.non, H', J.os, J.bare, J.base, J.hok, rfl, q⟩
  | brk => exact hs.elim fun _ z => z.elim fun _ z => z.2.elim
  | cont => exact hs.elim fun _ z => z.elim fun _ z => z.2.elim
section
variable {X : Cx} {CX : CXT} {k : Nat} {f C : Addr} {fd : FuncData} {ps : List Str} {E : XK} {pins : List (Addr × Obj)} {σ : L2.St} {H : Hp} {s : Shared}
/-- what an own __iter__ promises that returns iter(self.f), a tuple: f's items are told by ITS -/
def spIter (C : Addr) (ff : Str) : Nat → Sp := fun n vs H Q _ => ∃ (a dx t : Addr) (fs : List (Str × V)) (zs : List V), vs = [.ref a] ∧ H a = some (.ins C dx fs) ∧ fs.lookup ff = some (.ref t) ∧ H t = some (.tup zs) ∧ ∀ it H', H it = none → n ≤ it → Same H H' → H' it = some (ItT t it 0) → Q (.ref it) H'
theorem iter_ownT {A' : Around} {ff : Str} {a dx t : Addr} {fs : List (Str × V)} {zs : List V} {R : Value → Shared → Prop} (hs : PySem.W.findIn X.K (.ref C) "__iter__" = some (some (.ref f))) (hf : PySem.W.isFn X.K (.ref f) = true) (F : FnN X.prog X.w X.K X.mg X.base CX k f fd ps (spIter C ff)) (hr : Room k A')
    (he : Env0 X.prog X.w X.K X.mg X.base A' X.stack s H) (hb : Binds X.K fd ps []) (hx : Passes CX X E) (I : Inv X pins σ H s) (ha : H a = some (.ins C dx fs)) (hl : fs.lookup ff = some (.ref t)) (ht : H t = some (.tup zs))
    (q : ∀ it s' H', Inv X pins σ H' s' → H it = none → Same H H' → H' it = some (ItT t it 0) → X.s_0.heap.objs.size ≤ it → R (.ref it) s') : wpAny (model X.prog X.w) A' (pyIter (.ref a)) R X.xe s := by
  obtain ⟨od, ox, J⟩ := inst_at I ha
  obtain ⟨m0, hF⟩ := I.fr
  refine PySem.W.owit_iter hF I.ok.mod.kin J hs hf ?_
  have hsp : spIter C ff s.heap.objs.size [.ref a] H (fun v H' => ∃ it, v = .ref it ∧ s.heap.objs.size ≤ it ∧ H it = none ∧ Same H H' ∧ H' it = some (ItT t it 0)) E := ⟨a, dx, t, fs, zs, rfl, ha, hl, ht, fun it H' h0 hn sm e => ⟨it, rfl, hn, h0, sm, e⟩⟩
  have len := F.len _ _ _ _ _ hsp
  have b := hb s [.ref a] I.kIn (by simpa using len)
  rw [List.append_nil] at b
  refine wpAny_call (codeAny_mono (F.run A' X.stack s H ⟨[.ref a], []⟩ [.ref a] [.ref a] _ E hr he b (.cons rfl .nil) hsp) fun r s' hq => ?_)
  match r, hq with
  | .error e, hq => exact hx pins σ H s e s' I hq
  | .ok (.ret u), hq =>
    obtain ⟨v, H', I', rv, it, ev, hn, h0, sm, e⟩ := I.after hq
    subst ev
    cases (show u = Value.ref it from rv)
    have hit := itT_get I' e
    show PySem.W.OwitIt _ _ _ _ _ _
    unfold PySem.W.OwitIt
    exact wpAny_specialOf hit.typeIs PySem.F.slot_tuple_iterator_next.lookup (q it s' H' I' h0 sm e (Nat.le_trans I.sz hn))
theorem drop_same {H H1 : Hp} {it : Addr} (h0 : H it = none) (sm : Same H H1) : Same H (dropH H1 it) := fun b o e => by
  rw [dropH_ne (ne_of_none e h0)]
  exact sm b o e
/-- for x in o -/
def iOwn (K : PySem.W.Frag) (C : Addr) (ff : Str) (te : TE) : TI := fun σ H R => te σ H fun x H1 => ∃ (a dx t : Addr) (fs : List (Str × V)) (zs : List V), x = .ref a ∧ H1 a = some (.ins C dx fs) ∧ fs.lookup ff = some (.ref t) ∧ H1 t = some (.tup zs) ∧ ∀ H2, Same H1 H2 → R (Itt K t) H2
theorem pi_own {tg e : Expr} {te : TE} {ff : Str} (hs : PySem.W.findIn X.K (.ref C) "__iter__" = some (some (.ref f))) (hf : PySem.W.isFn X.K (.ref f) = true) (F : FnN X.prog X.w X.K X.mg X.base CX k f fd ps (spIter C ff)) (hr : Room k X.A) (hb : Binds X.K fd ps []) (hx : Passes CX X E) (he : PE X e te) : PI X tg e (iOwn X.K C ff te) := by
  refine ⟨fun pins s σ H R I h => thn (he.run pins s σ H _ I h) fun u s1 hh => ?_⟩
  obtain ⟨x, H1, I1, rx, a, dx, t, fs, zs, ex, ha, hl, ht, q⟩ := hh
  subst ex
  cases (show u = Value.ref a from rx)
  refine iter_ownT hs hf F hr I1.env0 hb hx I1 ha hl ht fun it s2 H2 I2 h0 sm e2 hn => ?_
  have e3 := e2
  unfold ItT at e3
  refine ⟨it, [it], _, _, dropH H2 it, rfl, inv_drop I2 e3, turn_tuple t it, itT_get I2 e2, fun b hb => ?_, q _ (drop_same h0 sm)⟩
  rw [List.mem_singleton.mp hb]
  exact inv_fp I2 e2 hn
end
section
variable {prog : Program} {w : World} {A : Around} {E : Value → Shared → Prop} {s : Shared}
/-- the enumerate object behind iter(v) -/
def enumO (it : Addr) : Obj := { cls := .type "enumerate", data := .fields #[.none, .bool false, .ref it, rawInt 0, .none, .none] }
set_option maxHeartbeats 4000000 in
theorem meets_enumI (v : Value) : MeetsIn prog w (Builtin.«enumerate.__new__» ⟨[.type "enumerate", v], []⟩) (fun B R s => wpAny (model prog w) B.in1 (pyIter v) (fun u s' => ∃ it, u = .ref it ∧ R (.ok (.ret (.ref s'.heap.objs.size))) { s' with heap := s'.heap.push (enumO it) }) (fun e s' => R (.error e) s') s) :=
  .of_wp fun B R s h => by
    have hsub := sub_enumerate
    have q1 : ∀ {Q : Value → Shared → Prop}, (∀ it s', R (.ok (.ret (.ref s'.heap.objs.size))) { s' with heap := s'.heap.push (enumO it) } → Q (.ref it) s') → wpAny (model prog w) B.in1 (pyIter v) Q (fun e s' => R (.error e) s') s := fun hQ => wpAny_mono h (fun u s' ⟨it, eu, q⟩ => eu ▸ hQ it s' q) fun _ _ z => z
    obtain ⟨hp, g, d, tk, os⟩ := s
    wp_walk using q1
    refine wpAny_stack_any fun st => wpAny_pure ?_
    split
    · rename_i c _ _ _ _ _
      cases (c == Value.type "enumerate")
      · wp_walk using q1
        rintro it ⟨hp2, g2, d2, tk2, os2⟩ r
        wp_walk
        exact ⟨_, rfl, r⟩
      · wp_walk using q1
        rintro it ⟨hp2, g2, d2, tk2, os2⟩ r
        wp_walk
        exact ⟨_, rfl, r⟩
    · wp_walk using q1
      rintro it ⟨hp2, g2, d2, tk2, os2⟩ r
      wp_walk
      exact ⟨_, rfl, r⟩
theorem enum_call {v : Value} {Q : Value → Shared → Prop} (hi : wpAny (model prog w) A.in1.in1 (pyIter v) (fun u s' => ∃ it, u = .ref it ∧ Q (.ref s'.heap.objs.size) { s' with heap := s'.heap.push (enumO it) }) E s) : wpAny (model prog w) A (call (.type "enumerate") [v]) Q E s :=
  callType_newIn PySem.F.called_enumerate (by decide) (PySem.F.typeCall_enumerate_1 _) (PySem.F.newCall_enumerate_1 _) (fun obj => PySem.F.args_object_init_2 obj _) PySem.F.entry_enumerate_new (meets_enumI v)
    (wpAny_mono hi (fun u s' ⟨it, eu, q⟩ => ⟨it, eu, ⟨_, Heap.get?_push_size _ rfl, rfl⟩, q⟩) fun _ _ z => z)
end
section
variable {X : Cx} {CX : CXT} {k : Nat} {f C : Addr} {fd : FuncData} {ps : List Str} {E : XK}
/-- for i, x in enumerate(v): v a list, a tuple, an own object -/
def iEnumA (K : PySem.W.Frag) (C : Addr) (ff : Str) (ta : TA) : TI := fun σ H R => ta σ H fun vs H1 => ∃ a, vs = [.ref a] ∧ (((∃ xs, SqL K H1 a xs) ∧ R (IteG fun H xs => SqL K H a xs) H1) ∨ ((∃ xs, SqT K H1 a xs) ∧ R (IteG fun H xs => SqT K H a xs) H1) ∨
  ∃ (dx t : Addr) (fs : List (Str × V)) (zs : List V), H1 a = some (.ins C dx fs) ∧ fs.lookup ff = some (.ref t) ∧ H1 t = some (.tup zs) ∧ ∀ H2, Same H1 H2 → R (IteG fun H xs => SqT K H t xs) H2)
theorem pi_enumA {e : Expr} {ta : TA} {ff : Str} {p pos tpos : Pos} {elts : List Expr} {kk : Nat} (hs : PySem.W.findIn X.K (.ref C) "__iter__" = some (some (.ref f))) (hf : PySem.W.isFn X.K (.ref f) = true) (F : FnN X.prog X.w X.K X.mg X.base CX k f fd ps (spIter C ff)) (hr : Room (k + 2) X.A) (hb : Binds X.K fd ps []) (hx : Passes CX X E)
    (hg : Gl X "enumerate") (hm : X.mg "enumerate" = none) (ha : PA X [e] ta) (hst : starEach [e] X.env = [(false, eval e X.env)] := by rfl) : PI X (.Tuple elts kk tpos) (.Call (.Name "enumerate" p) [e] [] pos) (iEnumA X.K C ff ta) := by
  refine ⟨fun pins s σ H R I h => Call_ (ld_blt I hg hm boot_enumerate (PyProof.Rows.callWith_type1 (thn (ha.run pos pins s σ H _ I h) fun us s1 ⟨vs, H1, I1, r1, q1⟩ => ?_) hst rfl))⟩
  obtain ⟨a, ex, q1⟩ := q1
  subst ex
  obtain ⟨u, rfl, ru⟩ := vals1 r1
  cases (show u = Value.ref a from ru)
  refine enum_call ?_
  have push : ∀ {s2 : Shared} {it : Addr}, (∀ b o, s2.heap.get? b = some o → (s2.heap.push (enumO it)).get? b = some o) := fun b o z => Heap.get?_push_of_some _ z
  have isE : ∀ {s2 : Shared} {it : Addr}, IsEnum (s2.heap.push (enumO it)) s2.heap.objs.size it ((0 : Nat) : Int) .none := fun {s2 it} => Heap.get?_push_size _ rfl
  rcases q1 with ⟨⟨xs, hq⟩, q⟩ | ⟨⟨xs, hq⟩, q⟩ | ⟨dx, t, fs, zs, h1, h2, h3, q⟩
  · obtain ⟨its, rv, pl, hz⟩ := I1.list hq
    refine wpAny_pyIter_list pl.isList ⟨_, rfl, ?_⟩
    have I2 : Inv X pins σ H1 { s1 with heap := s1.heap.push { cls := .type "list_iterator", data := .fields #[.ref a, .int 0 0] } } := I1.kept (t' := s1.toks) fun b o z => Heap.get?_push_of_some _ z
    have I3 : Inv X pins σ H1 { s1 with heap := (s1.heap.push { cls := .type "list_iterator", data := .fields #[.ref a, .int 0 0] }).push (enumO s1.heap.objs.size) } := I2.kept (t' := s1.toks) push
    have hz2 : (s1.heap.push { cls := .type "list_iterator", data := .fields #[.ref a, .int 0 0] }).objs.size = s1.heap.objs.size + 1 := Heap.size_push ..
    have hne : (s1.heap.push { cls := .type "list_iterator", data := .fields #[.ref a, .int 0 0] }).objs.size ≠ s1.heap.objs.size := by omega
    have itr : ((s1.heap.push { cls := .type "list_iterator", data := .fields #[.ref a, .int 0 0] }).push (enumO s1.heap.objs.size)).IsListIter s1.heap.objs.size a 0 := ⟨_, Heap.get?_push_of_some _ (Heap.get?_push_size _ rfl), rfl, rfl⟩
    refine wpAny_pyIter_enum isE ⟨_, [_, s1.heap.objs.size], _, _, H1, rfl, I3, turnL a _ s1.heap.objs.size, ⟨⟨.none, isE⟩, itr, hne⟩, fun b hb => ?_, q⟩
    have lt : s1.heap.objs.size ≤ b := by
      rcases List.mem_cons.mp hb with z | z
      · rw [z]
        show s1.heap.objs.size ≤ (s1.heap.push _).objs.size
        omega
      · exact Nat.le_of_eq (List.mem_singleton.mp z).symm
    exact I1.fpOk lt (I1.hok.fresh lt)
  · obtain ⟨its, rv, pl, hz⟩ := I1.tuple hq
    refine wpAny_pyIter_tuple (show s1.heap.IsTuple a its.toArray from pl) ⟨_, rfl, ?_⟩
    have I2 : Inv X pins σ H1 { s1 with heap := s1.heap.push { cls := .type "tuple_iterator", data := .fields #[.ref a, .int 0 0] } } := I1.kept (t' := s1.toks) fun b o z => Heap.get?_push_of_some _ z
    have I3 : Inv X pins σ H1 { s1 with heap := (s1.heap.push { cls := .type "tuple_iterator", data := .fields #[.ref a, .int 0 0] }).push (enumO s1.heap.objs.size) } := I2.kept (t' := s1.toks) push
    have hz2 : (s1.heap.push { cls := .type "tuple_iterator", data := .fields #[.ref a, .int 0 0] }).objs.size = s1.heap.objs.size + 1 := Heap.size_push ..
    have hne : (s1.heap.push { cls := .type "tuple_iterator", data := .fields #[.ref a, .int 0 0] }).objs.size ≠ s1.heap.objs.size := by omega
    have itr : ((s1.heap.push { cls := .type "tuple_iterator", data := .fields #[.ref a, .int 0 0] }).push (enumO s1.heap.objs.size)).IsTupleIter s1.heap.objs.size a 0 := ⟨_, Heap.get?_push_of_some _ (Heap.get?_push_size _ rfl), rfl, rfl⟩
    refine wpAny_pyIter_enum isE ⟨_, [_, s1.heap.objs.size], _, _, H1, rfl, I3, turnT a _ s1.heap.objs.size, ⟨⟨.none, isE⟩, itr, hne⟩, fun b hb => ?_, q⟩
    have lt : s1.heap.objs.size ≤ b := by
      rcases List.mem_cons.mp hb with z | z
      · rw [z]
        show s1.heap.objs.size ≤ (s1.heap.push _).objs.size
        omega
      · exact Nat.le_of_eq (List.mem_singleton.mp z).symm
    exact I1.fpOk lt (I1.hok.fresh lt)
  · have hr1 : Room (k + 1) X.A.in1 := Room.in1 hr
    refine iter_ownT hs hf F hr1.in1 I1.env0.in1.in1 hb hx I1 h1 h2 h3 fun it s2 H2 I2 h0 sm e2 hn => ⟨it, rfl, ?_⟩
    have I3 : Inv X pins σ H2 { s2 with heap := s2.heap.push (enumO it) } := I2.kept (t' := s2.toks) push
    have e3 := e2
    unfold ItT at e3
    have hit : it < s2.heap.objs.size := by
      obtain ⟨_, z, _⟩ := itT_get I2 e2
      exact Heap.lt_size z
    have hne : s2.heap.objs.size ≠ it := Nat.ne_of_gt hit
    refine wpAny_pyIter_enum isE ⟨s2.heap.objs.size, [s2.heap.objs.size, it], _, _, dropH H2 it, rfl, inv_drop I3 e3, turnT t s2.heap.objs.size it, ⟨⟨.none, isE⟩, (itT_get I3 e2), hne⟩, fun b hb => ?_, q _ (drop_same h0 sm)⟩
    rcases List.mem_cons.mp hb with z | z
    · rw [z]
      exact I2.fpOk (Nat.le_refl _) (by
        rw [dropH_ne hne]
        exact I2.hok.fresh (Nat.le_refl _))
    · rw [List.mem_singleton.mp z]
      exact inv_fp I3 e2 hn
end
/-- the turns of an enumerate -/
theorem for_enum {G : Hp → List V → Prop} {xs : List V} {g : TG} {tb : TS} {D : Ends} {ρ : L2.St} {G0 : Hp} (P : Nat → L2.St → Hp → Prop) (first : P 0 ρ G0) (still : ∀ i σ H, i ≤ xs.length → P i σ H → G H xs)
    (step : ∀ i x T σ H H', xs[i]? = some x → P i σ H → H T = none → Same H H' → H' T = some (.tup [.int (i : Nat), x]) → g (.ref T) σ H' fun σ2 H2 => tb { D with nx := P (i + 1), ct := P (i + 1), bk := D.nx } σ2 H2) (last : ∀ σ H, P xs.length σ H → D.nx σ H) :
    ∃ W : Nat → Nat → L2.St → Hp → Prop, (∃ m, W 0 m ρ G0) ∧ ∀ i m σ H, W i m σ H → ((IteG G).stop i H ∧ D.nx σ H) ∨ ((IteG G).go i H ∧ ∃ N : L2.St → Hp → Prop, (∀ σ' H', N σ' H' → ∃ m', m' < m ∧ W (i + 1) m' σ' H') ∧
      ∀ x H', (IteG G).yld i H x H' → g x σ H' fun σ2 H2 => tb { D with nx := N, ct := N, bk := D.nx } σ2 H2) := by
  refine ⟨fun i m σ H => m = xs.length - i ∧ i ≤ xs.length ∧ P i σ H, ⟨_, rfl, Nat.zero_le _, first⟩, ?_⟩
  rintro i m σ H ⟨rfl, hi, p⟩
  have gx := still i σ H hi p
  rcases Nat.lt_or_ge i xs.length with lt | ge
  · refine .inr ⟨⟨xs, xs[i], gx, List.getElem?_eq_getElem lt⟩, P (i + 1), fun σ' H' p' => ⟨_, Nat.sub_succ_lt_self _ _ lt, rfl, lt, p'⟩, fun x H' ⟨T, y, ex, hT, eH, hy⟩ => ?_⟩
    subst ex eH
    exact step i y T σ H _ (hy xs gx) p hT (same_new hT) upd_same
  · have e : i = xs.length := Nat.le_antisymm hi ge
    subst e
    exact .inl ⟨⟨xs, gx, rfl⟩, last σ H p⟩
end Tw
/-! Tw: repr of any data, get of a written dict, isinstance against a tuple of classes, tuples of the written part, the hook with tables. -/
namespace Tw
open PySem PySem.Spec PyProof.Rows L2 He
section
variable {X : Cx}
/-- repr(x), x any data -/
def rReprV (K : PySem.W.Frag) : List V → Hp → VK → Prop := fun xs H Q => ∃ (v : V) (d : PyData), xs = [v] ∧ Dx K H v d ∧ mild d = true ∧ d.depth ≤ 64 ∧ cap d ≤ 16777216 ∧ Q (.str d.shown) H
theorem call_reprV (hG : NoG X.A) (hu : X.A.units + 70 < cLine) : CallR X (.builtin "repr") (rReprV X.K) := by
  intro pins s σ H xs us Q I r h
  obtain ⟨v, d, rfl, hd, hm, hdp, hc, q⟩ := h
  have hl := Nat.le_trans (shown_le d hm) (show cap d ≤ sizeLine by rw [sizeLine_eq]; exact hc)
  cases v with
  | ref a => exact call_repr hG hu pins s σ H _ us Q I r ⟨a, d, rfl, hd, hm, hdp, hc, q⟩
  | non =>
    cases hd
    obtain ⟨u, rfl, ru⟩ := vals1 r
    cases ru
    exact PySem.P.repr_of_none ⟨.str _, H, I.tok _, ⟨_, rfl⟩, by simpa only [PyData.shown] using q⟩
  | bl b =>
    cases hd
    obtain ⟨u, rfl, ru⟩ := vals1 r
    cases ru
    exact PySem.P.repr_of_bool ⟨.str _, H, I.tok _, ⟨_, rfl⟩, by simpa only [PyData.shown] using q⟩
  | int i =>
    cases hd
    obtain ⟨u, rfl, t, rfl⟩ := vals1 r
    exact PySem.P.repr_of_int (by simpa [mild] using hm) ⟨.str _, H, I.tok _, ⟨_, rfl⟩, by simpa only [PyData.shown] using q⟩
  | str x =>
    cases hd
    obtain ⟨u, rfl, t, rfl⟩ := vals1 r
    exact PySem.P.repr_of_str ⟨.str _, H, I.tok _, ⟨_, rfl⟩, by simpa only [PyData.shown] using q⟩ (by simpa only [PyData.shown] using hl)
  | _ => cases hd
/-- isinstance(x, (C, D, ..)), x anything that is known, errors too -/
def rIsAT (K : PySem.W.Frag) : List V → Hp → VK → Prop := fun xs H Q => ∃ (x : V) (tp : Addr) (cs : List V) (t : Value) (us : List Value) (b : Bool), xs = [x, .ref tp] ∧ H tp = some (.tup cs) ∧ Paired ClsV cs us ∧
  (TyX K H x t ∨ ∃ (a C : Addr) (d : Addr) (fs : List (Str × V)), x = .ref a ∧ t = .ref C ∧ IsX H a C (some d) ∧ IsXd H d fs ∧ XC K C ∧ XO K) ∧ PySem.W.kitAny K t us = some b ∧ Q (.bl b) H
theorem call_isAT : CallR X (.builtin "isinstance") (rIsAT X.K) := by
  intro pins s σ H xs us Q I r h
  obtain ⟨x, tp, cs, t, ws, b, rfl, hT, k, ty, e, q⟩ := h
  obtain ⟨u1, u2, rfl, r1, r2⟩ := vals2 r
  cases (show u2 = Value.ref tp from r2)
  obtain ⟨_, its, rv, o, h1, h2, n, h3⟩ := (show ObjOk X.prog X.w H s.heap tp (.tup cs) from I.hok tp _ hT)
  have e3 := ClsV.all k rv
  subst e3
  obtain ⟨oc, od, dt, sl⟩ := o
  simp only at h2 h3
  subst h2 h3
  rcases ty with ty | ⟨a, C, d, fs, rfl, rfl, ia, idd, T, O⟩
  · obtain ⟨P, Z, p, hx⟩ := kit_of I r1 ty
    exact PySem.W.kia_tup Z I.kIn p h1 e hx fun tk => ⟨.bl b, H, I.tok tk, rfl, q⟩
  · cases (show u1 = Value.ref a from r1)
    obtain ⟨oe, vs, ho, hz, hdt⟩ := ia.get I.hok
    obtain ⟨mA, hns, hr⟩ := idd.get I.hok
    obtain ⟨od, hod, hlk⟩ := lookIn_ns hns
    have J : PySem.W.InstAt s.heap a oe C (some od) := ⟨ho, hz.1, by unfold PySem.W.notCls; rw [hdt] <;> rfl, by rw [hz.2]; exact hod⟩
    exact PySem.W.kia_tup (PySem.W.kitx_exc (od := some od) (oexC_cl T.ox) T.ga T.gg T.ox.exC T.ca O.hn O.ht T.cm) I.kIn J h1 e (fun z => nomatch z) fun tk => ⟨.bl b, H, I.tok tk, rfl, q⟩
end
/-- d.get(y, x), d a dict of the top with text keys -/
def tKGet2 (K : PySem.W.Frag) (d : Addr) (td ty tx : TE) : TE := fun σ H Q => td σ H fun x H1 => x = .ref d ∧ ty σ H1 fun y H2 => ∃ z, y = .str z ∧ tx σ H2 fun q H3 => ∃ (r : Option Value) (v : V), PySem.W.nsIn K d z = some r ∧ (∀ u, RelV q u → RelV v (r.getD u)) ∧ Q v H3
section
variable {X : Cx} {o e f : Expr} {apos cpos : Pos} {td ty tx : TE} {d : Addr} {es : Array DictEntry} {n : Nat}
theorem pe_kget2 (D : KDict X.K X.w d es n) (ho : PE X o td) (he : PE X e ty) (hf : PE X f tx) (m : M2 X o "get" apos e f cpos) : PE X (.Call (.Attribute o "get" apos) [e, f] [] cpos) (tKGet2 X.K d td ty tx) := by
  refine ⟨fun pins s σ H Q I h => ?_⟩
  refine wpAny_Call_method m.base m.few m.line PySem.F.plainAttrs_dict PySem.F.slot_dict_get PySem.F.type_dict_get (thn (ho.run pins s σ H _ I h) fun u s1 ⟨x, H1, I1, rx, ex, q1⟩ => ?_)
  subst ex
  obtain rfl : u = Value.ref d := rx
  refine ⟨kd_type D I1, fun b q => by cases q; exact ⟨_, I1.kIn _ _ D.at_, rfl⟩, ?_⟩
  rw [m.trees]
  refine Calls.callWith_builtin rfl (Calls.evalArgs_plain (Calls.spliced_cons (thn (he.run pins s1 σ H1 _ I1 q1) fun iv s2 ⟨y, H2, I2, ry, z, ez, q2⟩ =>
    Calls.spliced_cons (thn (hf.run pins s2 σ H2 _ I2 q2) fun fv s3 ⟨q, H3, I3, rq, r, v, er, hv, q3⟩ => Calls.spliced_nil ?_))))
  subst ez
  obtain ⟨t, rfl⟩ := ry
  refine call_meetsIn PySem.F.slot_dict_get (kd_type D I3) PySem.F.entry_dict_get (PySem.F.args_dict_get_3 _ _ _) (meets_dict_get_default (PySem.strKind X.prog X.w) d (PySem.strKind_is X.prog X.w z t) D.low fv) ⟨_, PySem.W.mapOf_K (prog := X.prog) I3.kIn D.at_ D.lit, ?_⟩
  rw [PySem.W.find_K D.at_ er]
  exact ⟨v, H3, I3.tok _, hv _ rq, q3⟩
end
/-! ### tuples of the written part -/
def tupB (K : Fg) (a : Addr) (vs : List V) : Bool := match K.lookup a with
  | some ⟨.type t, _, .seq its _, _⟩ => decide (t = "tuple") && (decide (its.size ≤ 1000) && relAll vs its.toList)
  | _ => false
theorem tupB_ok {K : Fg} {a : Addr} {vs : List V} (h : tupB K a vs = true) (H : Hp) : SqT K H a vs := by
  unfold tupB at h
  cases e : K.lookup a with
  | none =>
    rw [e] at h
    cases h
  | some o =>
    rw [e] at h
    obtain ⟨oc, od, dt, sl⟩ := o
    cases oc with
    | type t =>
      cases dt with
      | seq its n =>
        obtain ⟨h1, h⟩ := ba h
        obtain ⟨h2, h3⟩ := ba h
        have e1 := of_decide_eq_true h1
        subst e1
        exact .inr ⟨_, its, n, e, rfl, rfl, Nat.le_trans (of_decide_eq_true h2) (by decide), relAll_ok h3⟩
      | _ => cases h
    | _ => cases h
/-- C.f, a constant read off the class -/
def cvalB (K : Fg) (C : Addr) (f : Str) (v : V) : Bool := match PySem.W.findCls K (.ref C) (.type "type") f with
  | some (.val u) => relB v u
  | _ => false
theorem cvalB_ok {K : Fg} {C : Addr} {f : Str} {v : V} (h : cvalB K C f v = true) : ∃ u, ClX.CVal K C (.type "type") f v u := by
  unfold cvalB at h
  split at h
  · rename_i u e
    exact ⟨u, e, relB_ok h⟩
  · cases h
def creadB (K : Fg) (C : Addr) : Bool := PySem.W.readsIn K C (.type "type") && eqO (PySem.W.specialIn K (.ref C) "__getattribute__") (some (some (.builtin "type.__getattribute__")))
theorem creadB_ok {K : Fg} {C : Addr} (h : creadB K C = true) : ClX.CRead K C (.type "type") := by
  obtain ⟨h1, h2⟩ := ba h
  exact ⟨h1, eqO_ok h2⟩
/-! ### the hook with tables -/
abbrev AlYT : Type := AlD × List (Option (List (Option (Str × Int))))
def obsYT (fs : Fz) (fn : List DefD) (ts : List Tab) (K : Fg) : AlYT := (obsY fs fn K, ts.map fun t => dicW K (t.1 K))
def valYT (fn : List DefD) (ts : List Tab) (w : World) : AlYT := (valD fn, ts.map fun t => some (keysIn w.params t.2))
def obsYTG (n : Nat) (fs : Fz) (fn : List DefD) (ts : List Tab) (g : Addr → Option Obj) : AlYT := obsYT fs fn ts (frG g (asD g n ++ [cStatics]))
def SaysYT (fs : Fz) (fn : List DefD) (ts : List Tab) (w : World) (K : Fg) : Prop := obsYT fs fn ts K = valYT fn ts w
def hookYT (n : Nat) (fs : Fz) (fn : List DefD) (ts : List Tab) : PySem.W.Hook where
  α := AlYT
  obs := fun s => obsYTG n fs fn ts s.heap.get?
  val := fun w => valYT fn ts w
  says := fun w h => ∃ K : Fg, K.In h ∧ SaysYT fs fn ts w K
  of := fun _ _ e => ⟨_, frG_in, e⟩
  keeps := fun _ _ _ ⟨K, hK, c⟩ k => ⟨K, PySem.W.Frag.In.keeps hK k, c⟩
theorem obsYTG_eq {n : Nat} {fs : Fz} {fn : List DefD} {ts : List Tab} {g : Addr → Option Obj} {s : Shared} (h : ∀ a, g a = s.heap.get? a) : obsYTG n fs fn ts g = (hookYT n fs fn ts).obs s := by
  have e : g = s.heap.get? := funext h
  rw [e] <;> rfl
section
variable {fs : Fz} {fn : List DefD} {ts : List Tab} {w : World} {K : Fg}
theorem SaysYT.y (c : SaysYT fs fn ts w K) : SaysY fs fn K := congrArg (fun z : AlYT => z.1) c
theorem SaysYT.tab (c : SaysYT fs fn ts w K) (i : Nat) {t : Tab} (h : ts[i]? = some t := by rfl) : ∃ es n, KDict K w (t.1 K) es n := by
  have e : ts.map (fun t => dicW K (t.1 K)) = ts.map fun t => some (keysIn w.params t.2) := congrArg (fun z : AlYT => z.2) c
  have e2 : (ts.map fun t => dicW K (t.1 K))[i]? = (ts.map fun t => some (keysIn w.params t.2))[i]? := by rw [e]
  rw [List.getElem?_map, List.getElem?_map, h] at e2
  exact dicW_ok (Option.some.inj e2)
end
/-! ### small texts -/
/-- signs below 128, at most n -/
def Small (n : Nat) (z : Str) : Prop := z.length ≤ n ∧ ∀ c ∈ z.cps.toList, c < 128
theorem Small.app {m n : Nat} {x y : Str} (hx : Small m x) (hy : Small n y) : Small (m + n) (x ++ y) := by
  refine ⟨by rw [Str.length_append]; exact Nat.add_le_add hx.1 hy.1, fun c hc => ?_⟩
  rw [show (x ++ y).cps.toList = TL.tl (x ++ y) from rfl, TL.tl_append] at hc
  rcases List.mem_append.mp hc with q | q
  · exact hx.2 c q
  · exact hy.2 c q
theorem Small.cut {n : Nat} {x : Str} (hx : Small n x) (lo hi : Option Int) : Small n (cutS x lo hi) := by
  refine ⟨Nat.le_trans (cutS_length x lo hi) hx.1, fun c hc => hx.2 c ?_⟩
  unfold cutS at hc
  exact List.mem_of_mem_drop (List.mem_of_mem_take (by simpa using hc))
theorem Small.mono {m n : Nat} {x : Str} (hx : Small m x) (h : m ≤ n) : Small n x := ⟨Nat.le_trans hx.1 h, hx.2⟩
theorem Small.mild {n : Nat} {x : Str} (hx : Small n x) : Tw.mild (.str x) = true := by
  unfold Tw.mild
  rw [List.all_eq_true]
  exact fun c hc => decide_eq_true (Nat.lt_trans (hx.2 c hc) (by decide))
def smallB (n : Nat) (z : Str) : Bool := decide (z.length ≤ n) && z.cps.toList.all fun c => decide (c < 128)
theorem smallB_ok {n : Nat} {z : Str} (h : smallB n z = true) : Small n z := by
  obtain ⟨h1, h2⟩ := ba h
  exact ⟨of_decide_eq_true h1, fun c hc => of_decide_eq_true (List.all_eq_true.mp h2 c hc)⟩
theorem Small.strOk {n : Nat} {z : Str} (h : Small n z) : PyData.strOk z = true := by
  unfold PyData.strOk
  rw [← Array.all_toList, List.all_eq_true]
  exact fun c hc => decide_eq_true (Nat.lt_trans (h.2 c hc) (by decide))
/-! ### lists of texts -/
theorem dxStrs {K : PySem.W.Frag} {H : Hp} : ∀ zs : List Str, DxAll K H (zs.map V.str) (zs.map PyData.str)
  | [] => .nil
  | z :: zs => .cons (.str z) (dxStrs zs)
theorem dxBools {K : PySem.W.Frag} {H : Hp} : ∀ zs : List Bool, DxAll K H (zs.map V.bl) (zs.map PyData.bool)
  | [] => .nil
  | z :: zs => .cons (.bl z) (dxBools zs)
theorem dpStrs {K : PySem.W.Frag} {H : Hp} : ∀ zs : List Str, DpAll K H (zs.map V.str) (zs.map PyData.str)
  | [] => .nil
  | z :: zs => .cons (.str z) (dpStrs zs)
theorem mildStrs {n : Nat} : ∀ zs : List Str, (∀ z ∈ zs, Small n z) → mildAll (zs.map .str) = true ∧ capAll (zs.map .str) ≤ (12 * n + 100) * zs.length
  | [], _ => ⟨rfl, Nat.le_refl _⟩
  | z :: zs, h => by
    obtain ⟨h1, h2⟩ := mildStrs zs fun y hy => h y (List.mem_cons_of_mem _ hy)
    have h3 := h z List.mem_cons_self
    constructor
    · simp only [List.map_cons, mildAll, h3.mild, h1, Bool.and_self]
    · simp only [List.map_cons, capAll, List.length_cons]
      have h4 : cap (.str z) ≤ 12 * n + 90 := by
        have := h3.1
        simp only [cap]
        omega
      rw [Nat.mul_add]
      omega
theorem depthStrs : ∀ zs : List Str, PyData.depthAll (zs.map PyData.str) = 0
  | [] => rfl
  | z :: zs => by simp only [List.map_cons, PyData.depthAll, PyData.depth, depthStrs zs, Nat.max_self]
/-- what repr asks of a list of small texts -/
theorem reprStrs {n : Nat} (zs : List Str) (h : ∀ z ∈ zs, Small n z) (hn : n ≤ 1000) (hz : zs.length ≤ 1000) : mild (.list (zs.map .str)) = true ∧ (PyData.list (zs.map .str)).depth ≤ 64 ∧ cap (.list (zs.map .str)) ≤ 16777216 := by
  obtain ⟨h1, h2⟩ := mildStrs zs h
  have h3 : (12 * n + 100) * zs.length ≤ 12100 * 1000 := Nat.mul_le_mul (by omega) hz
  refine ⟨by simpa [mild] using h1, by simp only [PyData.depth, depthStrs]; decide, ?_⟩
  simp only [cap]
  omega
end Tw
/-! ### the defs of a text, by their number -/
namespace Tw
open PySem PySem.Spec PyProof.Rows L2 He
abbrev DefsAt (fn : List DefD) (K : Fg) (fd : Nat → FuncData) : Prop := ∀ (i : Nat) (d : DefD), fn[i]? = some d → FunD K d.name d.qual d.params d.body d.scope (d.dvs K) (d.kws K) (fAd K d.at_) (fd i)
theorem SaysY.defs {fs : Fz} {fn : List DefD} {K : Fg} (c : SaysY fs fn K) {d0 : DefD} (h0 : fn[0]? = some d0) : ∃ fd : Nat → FuncData, DefsAt fn K fd := by
  obtain ⟨u0, _⟩ := c.def_ 0 h0
  have h : ∀ i : Nat, ∃ u : FuncData, ∀ d : DefD, fn[i]? = some d → FunD K d.name d.qual d.params d.body d.scope (d.dvs K) (d.kws K) (fAd K d.at_) u := fun i => by
    cases e : fn[i]? with
    | none => exact ⟨u0, fun d z => nomatch z⟩
    | some d =>
      obtain ⟨u, hu⟩ := c.def_ i e
      exact ⟨u, fun d' z => by
        cases z
        exact hu⟩
  exact ⟨fun i => Classical.choose (h i), fun i d e => Classical.choose_spec (h i) d e⟩
/-- what the walk asks of the written part and of the module's names -/
structure TxtB (fs : Fz) (fn : List DefD) (K : Fg) (mg : Str → Option Value) : Prop where
  c : SaysY fs fn K
  gl : ∀ x, (Fa.glo x).ok K = true → mg x = some (.ref (ga K x))
  fr : ∀ x, (Fa.free x).ok K = true → mg x = none
  nt : ∀ x i, (Fa.int x i).ok K = true → ∃ t, mg x = some (.int i t)
  tx : ∀ x z, (Fa.str x z).ok K = true → ∃ t, mg x = some (.str z t)
end Tw
namespace Tw
open PySem PySem.Spec PyProof.Rows L2 He
/-! ### errors of one field -/
/-- C.__init__ that stores one value -/
def spIni (C : Addr) (f : Str) : Sp := fun vs H Q _ => ∃ (a : Addr) (v : V), vs = [.ref a, v] ∧ H a = some (exo a C none) ∧ ∀ (d : Addr) (H' : Hp), H d = none → d ≠ a → H' a = some (exo a C (some d)) → H' d = some (exd d [(f, v)]) → But a H H' → Q .non H'
theorem bad_out {H : Hp} {C : Addr} {f : Str} {v : V} {Q : XK} {E : XK} (k : ∀ (d : Addr) (H' : Hp), Same H H' → H' d = some (.xd [(f, v)]) → Q (.ref C) (some d) H') :
    ([v] : List V).length ≤ 1000 ∧ ∀ a, H a = none → spIni C f (.ref a :: (([v] : List V) ++ [])) (upd H a (exo a C none)) (fun v H2 => v = .non ∧ ∃ (d : Addr) (fs : List (Str × V)), H2 a = some (exo a C (some d)) ∧ H2 d = some (exd d fs) ∧ H d = none ∧ Q (.ref C) (some d) (upd (del H2 a) d (.xd fs))) E := by
  refine ⟨(by show 1 ≤ 1000; decide), fun a ha => ⟨a, v, rfl, upd_same, fun d H' hd hda e1 e2 e3 => ?_⟩⟩
  rw [upd_ne hda] at hd
  refine ⟨rfl, d, _, e1, e2, hd, k d _ (fun b o hb => ?_) upd_same⟩
  have hba : b ≠ a := ne_of_none hb ha
  rw [upd_ne (ne_of_none hb hd), del_ne hba]
  exact e3 b o (by rw [upd_ne hba]; exact hb) hba
theorem same_but {H H1 H2 : Hp} {a : Addr} (s : Same H H1) (b : But a H1 H2) (h : H a = none) : Same H H2 := fun c o e => b c o (s c o e) (ne_of_none e h)
theorem same_made {H : Hp} {a dx : Addr} {o u : HO} (hd : H dx = none) (ha : H a = none) (hda : dx ≠ a) : Same H (upd (upd H dx o) a u) := (same_new hd).trans (same_new (by rw [upd_ne hda.symm]; exact ha))
theorem atI_gen {α : Type} {xs : List α} {i : Int} {v : α} (h0 : 0 ≤ i) (h : xs[i.toNat]? = some v) : atI xs i = some v := by
  have e : i = (i.toNat : Int) := (Int.toNat_of_nonneg h0).symm
  rw [e]
  exact atI_nat h
theorem dec_i {i j : Int} : decide (V.int i = V.int j) = decide (i = j) := by
  by_cases h : i = j
  · rw [h]
    simp
  · rw [decide_eq_false h, decide_eq_false fun z => h (V.int.inj z)]
theorem dec_s {i j : Str} : decide (V.str i = V.str j) = decide (i = j) := by
  by_cases h : i = j
  · rw [h]
    simp
  · rw [decide_eq_false h, decide_eq_false fun z => h (V.str.inj z)]
theorem inStrs (z : Str) : ∀ zs : List Str, inV (.str z) (zs.map V.str) = decide (z ∈ zs)
  | [] => rfl
  | y :: ys => by
    have ih := inStrs z ys
    unfold inV at ih ⊢
    rw [List.map_cons, List.any_cons, ih]
    show ((y == z) || _) = _
    by_cases h : y = z
    · subst h
      simp
    · rw [beq_eq_false_iff_ne.mpr h, Bool.false_or]
      exact decide_eq_decide.2 ⟨fun q => List.mem_cons_of_mem _ q, fun q => (List.mem_cons.mp q).resolve_left fun e => h e.symm⟩
theorem flatStrs : ∀ zs : List Str, (zs.map V.str).all flatV = true
  | [] => rfl
  | _ :: zs => by
    rw [List.map_cons, List.all_cons, flatStrs zs]
    rfl
end Tw
/-! Tw: own operators: x + y of one class, x * 3, 3 * x, -x, x += y. -/
namespace Tw
open PySem PySem.Spec PyProof.Rows L2 He
/-- the class at C answers to name by the def at f -/
structure OwnB (K : PySem.W.Frag) (C : Addr) (name : Str) (f : Addr) : Prop where
  self1 : PySem.W.selfFirst K C = true
  at_ : PySem.W.findIn K (.ref C) name = some (some (.ref f))
  fn : PySem.W.isFn K (.ref f) = true
def ownB (K : PySem.W.Frag) (x m : Str) : Bool := PySem.W.selfFirst K (ga K x) && (eqO (PySem.W.findIn K (.ref (ga K x)) m) (some (some (.ref (ma K (ga K x) m)))) && PySem.W.isFn K (.ref (ma K (ga K x) m)))
theorem ownB_ok {K : PySem.W.Frag} {x m : Str} (h : ownB K x m = true) : OwnB K (ga K x) m (ma K (ga K x) m) := by
  obtain ⟨h1, h⟩ := ba h
  obtain ⟨h2, h3⟩ := ba h
  exact ⟨h1, eqO_ok h2, h3⟩
section
variable {X : Cx} {CX : CXT} {k : Nat} {f C : Addr} {fd : FuncData} {ps : List Str} {sp : Sp} {E : XK} {op : Operator} {T : String}
/-- x op y, both of the class at C -/
def rBinOwn (C : Addr) (sp : Sp) (E : XK) : R2 := fun x y H Q => ∃ (a b dx dy : Addr) (fs gs : List (Str × V)), x = .ref a ∧ y = .ref b ∧ H a = some (.ins C dx fs) ∧ H b = some (.ins C dy gs) ∧ sp [x, y] H Q E
theorem op_binOwn (c : OwnB X.K C (PySem.dunder op.info.2) f) (F : FnOk X.prog X.w X.K X.mg X.base CX k f fd ps sp) (hr : Room k X.A) (hb : Binds X.K fd ps []) (hx : Passes CX X E) : OpR X (binaryOp op) (rBinOwn C sp E) := by
  intro pins s σ H x y v u Q I rx ry h
  obtain ⟨a, b, dx, dy, fs, gs, rfl, rfl, ea, eb, q⟩ := h
  cases (show v = Value.ref a from rx)
  cases (show u = Value.ref b from ry)
  obtain ⟨od, ox, J⟩ := inst_at I ea
  obtain ⟨od2, oy, J2⟩ := inst_at I eb
  obtain ⟨m, fr⟩ := I.fr
  refine PySem.W.binop_K fr I.ok.mod.kin J J2.type c.self1 c.at_ c.fn ?_
  refine wpAny_mono (run_fn (dvs := []) (ds := []) (us := [.ref a, .ref b]) (vs := [.ref a, .ref b]) F hr hb .nil hx I (.cons rfl (.cons rfl .nil)) q) (fun w s' z => ?_) fun _ _ x => x
  obtain ⟨z', H', I', rz, qz⟩ := z
  exact SlX.cmpback rz ⟨z', H', I', rz, qz⟩
/-- what is asked of a built-in class beside it -/
structure BinT (K : PySem.W.Frag) (C : Addr) (op : Operator) (T : String) : Prop where
  l : ∃ fo, PySem.W.findIn K (.type T) (PySem.dunder op.info.2) = some fo
  r : ∃ ro, PySem.W.findIn K (.type T) (PySem.dunderR op.info.2) = some ro
  sub : PySem.W.subIn K (.type T) (.ref C) = some false
  rc : ∃ rc, PySem.W.findIn K (.ref C) (PySem.dunderR op.info.2) = some rc ∧ (rc = none ∨ ∃ g : Addr, rc = some (.ref g))
def refOrNone : Option (Option Value) → Bool
  | some none => true
  | some (some (.ref _)) => true
  | _ => false
theorem refOrNone_ok {o : Option (Option Value)} (h : refOrNone o = true) : ∃ rc, o = some rc ∧ (rc = none ∨ ∃ g : Addr, rc = some (.ref g)) := by
  unfold refOrNone at h
  split at h
  · exact ⟨_, rfl, .inl rfl⟩
  · rename_i g
    exact ⟨_, rfl, .inr ⟨g, rfl⟩⟩
  · cases h
def binTB (K : PySem.W.Frag) (x : Str) (op : Operator) (T : String) : Bool := (PySem.W.findIn K (.type T) (PySem.dunder op.info.2)).isSome && ((PySem.W.findIn K (.type T) (PySem.dunderR op.info.2)).isSome && (decide (PySem.W.subIn K (.type T) (.ref (ga K x)) = some false) && refOrNone (PySem.W.findIn K (.ref (ga K x)) (PySem.dunderR op.info.2))))
theorem binTB_ok {K : PySem.W.Frag} {x : Str} {op : Operator} {T : String} (h : binTB K x op T = true) : BinT K (ga K x) op T := by
  obtain ⟨h1, h⟩ := ba h
  obtain ⟨h2, h⟩ := ba h
  obtain ⟨h3, h4⟩ := ba h
  exact ⟨Option.isSome_iff_exists.mp h1, Option.isSome_iff_exists.mp h2, of_decide_eq_true h3, refOrNone_ok h4⟩
/-- y is a value of the built-in class T -/
def ofT (H : Hp) (y : V) (T : String) : Prop := match y with
  | .int _ => T = "int"
  | .bl _ => T = "bool"
  | .str _ => T = "str"
  | _ => False
theorem ofT_type {H : Hp} {y : V} {u : Value} (r : RelV y u) (h : ofT H y T) : typeOf u = pure (.type T) := by
  cases y with
  | int i =>
    obtain ⟨t, rfl⟩ := r
    cases (show T = "int" from h)
    rfl
  | bl b =>
    cases (show u = Value.bool b from r)
    cases (show T = "bool" from h)
    rfl
  | str z =>
    obtain ⟨t, rfl⟩ := r
    cases (show T = "str" from h)
    rfl
  | _ => exact h.elim
/-- x op y, x of the class at C, y a number or a text -/
def rBinT (C : Addr) (T : String) (sp : Sp) (E : XK) : R2 := fun x y H Q => ∃ (a dx : Addr) (fs : List (Str × V)), x = .ref a ∧ H a = some (.ins C dx fs) ∧ ofT H y T ∧ sp [x, y] H Q E
theorem op_binT (c : OwnB X.K C (PySem.dunder op.info.2) f) (t : BinT X.K C op T) (F : FnOk X.prog X.w X.K X.mg X.base CX k f fd ps sp) (hr : Room k X.A) (hb : Binds X.K fd ps []) (hx : Passes CX X E) : OpR X (binaryOp op) (rBinT C T sp E) := by
  intro pins s σ H x y v u Q I rx ry h
  obtain ⟨a, dx, fs, rfl, ea, ht, q⟩ := h
  cases (show v = Value.ref a from rx)
  obtain ⟨od, ox, J⟩ := inst_at I ea
  obtain ⟨m, fr⟩ := I.fr
  obtain ⟨fo, h1⟩ := t.l
  obtain ⟨ro, h2⟩ := t.r
  obtain ⟨rc, h3, h4⟩ := t.rc
  refine PySem.W.ksp_binT fr I.ok.mod.kin J (ofT_type ry ht) c.self1 c.at_ c.fn h3 h4 h1 h2 t.sub ?_
  refine wpAny_mono (run_fn (dvs := []) (ds := []) (us := [.ref a, u]) (vs := [.ref a, y]) F hr hb .nil hx I (.cons rfl (.cons ry .nil)) q) (fun w s' z => ?_) fun _ _ x => x
  obtain ⟨z', H', I', rz, qz⟩ := z
  exact SlX.cmpback rz ⟨z', H', I', rz, qz⟩
/-- -x -/
def rNegOwn (C : Addr) (sp : Sp) (E : XK) : V → Hp → VK → Prop := fun x H Q => ∃ (a dx : Addr) (fs : List (Str × V)), x = .ref a ∧ H a = some (.ins C dx fs) ∧ sp [x] H Q E
theorem un_negOwn (c : OwnB X.K C "__neg__" f) (F : FnOk X.prog X.w X.K X.mg X.base CX k f fd ps sp) (hr : Room k X.A) (hb : Binds X.K fd ps []) (hx : Passes CX X E) : UnR X (unaryOp .USub) (rNegOwn C sp E) := by
  intro pins s σ H x v Q I rx h
  obtain ⟨a, dx, fs, rfl, ea, q⟩ := h
  cases (show v = Value.ref a from rx)
  obtain ⟨od, ox, J⟩ := inst_at I ea
  obtain ⟨m, fr⟩ := I.fr
  refine PySem.W.ksp_neg fr I.ok.mod.kin J c.at_ c.fn ?_
  exact run_fn (dvs := []) (ds := []) (us := [.ref a]) (vs := [.ref a]) F hr hb .nil hx I (.cons rfl .nil) q
/-- x op= y by an own in-place method -/
def rInOwn (C : Addr) (sp : Sp) (E : XK) : R2 := fun x y H Q => ∃ (a dx : Addr) (fs : List (Str × V)), x = .ref a ∧ H a = some (.ins C dx fs) ∧ sp [x, y] H Q E
theorem in_own (c : OwnB X.K C (PySem.dunderI op.info.2) f) (F : FnOk X.prog X.w X.K X.mg X.base CX k f fd ps sp) (hr : Room k X.A) (hb : Binds X.K fd ps []) (hx : Passes CX X E) : OpR X (inplaceOp op) (rInOwn C sp E) := by
  intro pins s σ H x y v u Q I rx ry h
  obtain ⟨a, dx, fs, rfl, ea, q⟩ := h
  cases (show v = Value.ref a from rx)
  obtain ⟨od, ox, J⟩ := inst_at I ea
  obtain ⟨m, fr⟩ := I.fr
  refine PySem.W.ksp_inplace fr I.ok.mod.kin J c.self1 c.at_ c.fn ?_
  refine wpAny_mono (run_fn (dvs := []) (ds := []) (us := [.ref a, u]) (vs := [.ref a, y]) F hr hb .nil hx I (.cons rfl (.cons ry .nil)) q) (fun w s' z => ?_) fun _ _ x => x
  obtain ⟨z', H', I', rz, qz⟩ := z
  exact SlX.cmpback rz ⟨z', H', I', rz, qz⟩
end
end Tw
namespace Tw
open PySem PySem.Spec PyProof.Rows L2 He
/-! ### a staticmethod called by its class -/
structure CSta (K : PySem.W.Frag) (C : Addr) (m : Str) (p g : Addr) : Prop where
  at_ : PySem.W.findCls K (.ref C) (.type "type") m = some (.get (.builtin "staticmethod.__get__") (.ref p) .none (.ref C))
  rc : ∃ rest, PySem.W.recIn K p "staticmethod" = some (.ref g :: rest)
  kp : PySem.W.keepIn K (.ref g) = true
/-- the def behind the record of C.m -/
def rcAt (K : PySem.W.Frag) (x m T : Str) : Addr := match PySem.W.recIn K (ma K (ga K x) m) T.toString with
  | some (.ref g :: _) => g
  | _ => 0
def cstaB (K : PySem.W.Frag) (x m : Str) : Bool := (match PySem.W.findCls K (.ref (ga K x)) (.type "type") m with
  | some (.get (.builtin b) (.ref p) .none (.ref C)) => decide (b = "staticmethod.__get__") && (decide (p = ma K (ga K x) m) && decide (C = ga K x))
  | _ => false) && ((match PySem.W.recIn K (ma K (ga K x) m) "staticmethod" with
  | some (.ref g :: _) => decide (g = rcAt K x m "staticmethod")
  | _ => false) && PySem.W.keepIn K (.ref (rcAt K x m "staticmethod")))
theorem cstaB_ok {K : PySem.W.Frag} {x m : Str} (h : cstaB K x m = true) : CSta K (ga K x) m (ma K (ga K x) m) (rcAt K x m "staticmethod") := by
  obtain ⟨h1, h⟩ := ba h
  obtain ⟨h2, h3⟩ := ba h
  refine ⟨?_, ?_, h3⟩
  · split at h1
    · rename_i b p C e
      obtain ⟨a1, a⟩ := ba h1
      obtain ⟨a2, a3⟩ := ba a
      rw [e, of_decide_eq_true a1, of_decide_eq_true a2, of_decide_eq_true a3]
    · cases h1
  · split at h2
    · rename_i g rest e
      exact ⟨rest, by rw [e, of_decide_eq_true h2]⟩
    · cases h2
section
variable {X : Cx} {CX : CXT} {k : Nat} {C p g : Addr} {fd : FuncData} {ps : List Str} {sp : Sp} {dvs : List V} {ds : List Value} {E : XK} {o e : Expr} {es : List Expr} {m : Str} {pos apos : Pos} {ta : TE} {t : TA} {pl : Sem Bool}
theorem typ_of {K : PySem.W.Frag} {mc : Value} (h : PySem.W.readsIn K C mc = true) : PySem.W.typeIn K (.ref C) = some mc := by
  simp only [PySem.W.readsIn, Bool.and_eq_true, beq_iff_eq] at h
  exact h.1.1.1.2
theorem pe_smeth (he : PE X o ta) (r : ClX.CRead X.K C (.type "type")) (c : CSta X.K C m p g) (F : FnOk X.prog X.w X.K X.mg X.base CX k g fd ps sp) (hr : Room k X.A) (hb : Binds X.K fd ps ds) (hd : Vals dvs ds) (hx : Passes CX X E) (ha : PA X (e :: es) t)
    (hst : starEach (e :: es) X.env = (false, eval e X.env) :: starEach es X.env := by rfl) (hpl : (backTo pos (starEach es X.env)).any (·.1) = false := by rfl)
    (ht : eval (.Call (.Attribute o m apos) (e :: es) [] pos) X.env = (do
      let ov ← eval o X.env
      standAt apos.atName
      let (f, first) ← holding [ov] (getMethod ov m pl)
      callWith pos f first (backTo pos (starEach (e :: es) X.env)) (backToKw pos (keywordEach [] X.env))) := by rfl) :
    PE X (.Call (.Attribute o m apos) (e :: es) [] pos) (fun σ H Q => ta σ H fun x H1 => x = .ref C ∧ t σ H1 fun vs H2 => sp (vs ++ dvs) H2 Q E) := by
  refine ⟨fun pins s σ H Q I h => ?_⟩
  refine PySem.W.methodCall_KW (pl := pl) (thn (he.run pins s σ H _ I h) fun u s1 ⟨x, H1, I1, rx, ex, q⟩ => ?_) ht
  subst ex
  obtain rfl : u = Value.ref C := rx
  obtain ⟨m', fr⟩ := I1.fr
  obtain ⟨rest, hp⟩ := c.rc
  refine PySem.W.method_cls I1.kIn r.ga (PySem.W.cls_sm fr I1.ok.mod.kin (typ_of r.rd) r.rd c.at_ hp rfl ?_)
  have I2 := I1.tok (s1.toks + 1)
  exact PySem.W.callWith_K (h₀ := X.base) I2.ok.mod.kin c.kp (thn (ha.run pos pins _ σ H1 _ I2 q) fun us s3 ⟨vs, H2, I3, rv, q2⟩ => ⟨I3.kIn, run_fn F hr hb hd hx I3 rv q2⟩) hst hpl
end
end Tw
/-! Tw: a staticmethod called within try; == of two lists of one and the same thing; slices and == within a comprehension. -/
namespace Tw
open PySem PySem.Spec PyProof.Rows L2 He
section
variable {X : Cx} {CX : CXT} {k : Nat} {C m' p g : Addr} {fd : FuncData} {ps : List Str} {sp : Sp} {E : L2.St → XK} {m : Str} {o e : Expr} {es : List Expr} {pos apos : Pos} {ta : TE} {t : TA}
theorem pe_smethS {pl : Sem Bool} (he : PE X o ta) (r : ClX.CRead X.K C (.type "type")) (c : CSta X.K C m p g) (F : FnOk X.prog X.w X.K X.mg X.base CX k g fd ps sp) (hr : Room k X.A) (hb : Binds X.K fd ps []) (hx : ∀ σ, PassesAt CX X σ (E σ)) (ha : PA X (e :: es) t)
    (hst : starEach (e :: es) X.env = (false, eval e X.env) :: starEach es X.env := by rfl) (hpl : (backTo pos (starEach es X.env)).any (·.1) = false := by rfl)
    (ht : eval (.Call (.Attribute o m apos) (e :: es) [] pos) X.env = (do
      let ov ← eval o X.env
      standAt apos.atName
      let (f, first) ← holding [ov] (getMethod ov m pl)
      callWith pos f first (backTo pos (starEach (e :: es) X.env)) (backToKw pos (keywordEach [] X.env))) := by rfl) :
    PE X (.Call (.Attribute o m apos) (e :: es) [] pos) (fun σ H Q => ta σ H fun x H1 => x = .ref C ∧ t σ H1 fun vs H2 => sp vs H2 Q (E σ)) := by
  refine ⟨fun pins s σ H Q I h => ?_⟩
  refine PySem.W.methodCall_KW (pl := pl) (thn (he.run pins s σ H _ I h) fun u s1 ⟨x, H1, I1, rx, ex, q⟩ => ?_) ht
  subst ex
  obtain rfl : u = Value.ref C := rx
  obtain ⟨m', fr⟩ := I1.fr
  obtain ⟨rest, hp⟩ := c.rc
  refine PySem.W.method_cls I1.kIn r.ga (PySem.W.cls_sm fr I1.ok.mod.kin (typ_of r.rd) r.rd c.at_ hp rfl ?_)
  have I2 := I1.tok (s1.toks + 1)
  exact PySem.W.callWith_K (h₀ := X.base) I2.ok.mod.kin c.kp (thn (ha.run pos pins _ σ H1 _ I2 q) fun us s3 ⟨vs, H2, I3, rv, q2⟩ => ⟨I3.kIn, L2.run_fnS F hr hb (hx σ) I3 rv q2⟩) hst hpl
end
section
variable {X : Cx}
/-- xs == ys: data, or two lists of one and the same object -/
def rEqSame (K : PySem.W.Frag) : R2 := fun x y H Q => rEqD K x y H Q ∨ ∃ a b c : Addr, x = .ref a ∧ y = .ref b ∧ H a = some (.lst [.ref c]) ∧ H b = some (.lst [.ref c]) ∧ Q (.bl true) H
theorem op_eqSame (hu : X.A.units + 64 < cLine) : OpR X (compareOp .Eq) (rEqSame X.K) := by
  intro pins s σ H x y v u Q I rx ry h
  rcases h with h | ⟨a, b, c, rfl, rfl, ha, hb, q⟩
  · exact op_eqD hu pins s σ H x y v u Q I rx ry h
  · obtain rfl : v = Value.ref a := rx
    obtain rfl : u = Value.ref b := ry
    obtain ⟨i1, r1, p1, _⟩ := I.list (SqL.of ha)
    obtain ⟨i2, r2, p2, _⟩ := I.list (SqL.of hb)
    obtain ⟨u1, rfl, e1⟩ := vals1 r1
    obtain ⟨u2, rfl, e2⟩ := vals1 r2
    cases (show u1 = Value.ref c from e1)
    cases (show u2 = Value.ref c from e2)
    refine SeqAt.eq_listAt (e := fun _ => true) p1.isList p2.isList rfl (by omega) (fun j h1 h2 => ?_) ?_
    · have e : j = 0 := by
        have : j < 1 := h1
        omega
      subst e
      exact SeqAt.EqAt.same _
    · exact ⟨.bl true, H, I, rfl, q⟩
end
theorem eqDK {X : Cx} (K : PySem.W.Frag) (hu : X.A.units + 64 < cLine) (h : X.K = K := by rfl) : OpR X (compareOp .Eq) (rEqD K) := by
  subst h
  exact op_eqD hu
/-- a[lo:hi] of a list, the new list in an abstract heap -/
def rSlN (K : PySem.W.Frag) : V → Option Int → Option Int → Hp → VK → Prop := fun x lo hi H Q => ∃ a xs, x = .ref a ∧ SqL K H a xs ∧ ∀ (p : Addr) (H' : Hp), H p = none → Same H H' → H' p = some (.lst (cutV xs lo hi)) → Q (.ref p) H'
theorem sl_listN {X : Cx} : SlR X (rSlN X.K) := by
  intro pins s σ H x v vl vu lo hi sl Q I rx hs pl pu h
  obtain ⟨a, xs, ex, hx, q⟩ := h
  exact sl_list pins s σ H x v vl vu lo hi sl Q I rx hs pl pu ⟨a, xs, ex, hx, fun p hp => q p _ hp (same_new hp) upd_same⟩
theorem slK {X : Cx} (K : PySem.W.Frag) (h : X.K = K := by rfl) : SlR X (rSlN K) := by
  subst h
  exact sl_listN
theorem But.free {p q : Addr} {H H' : Hp} (B : But p H H') (h : H' q = none) (hq : q ≠ p) : H q = none := by
  cases e : H q with
  | none => rfl
  | some o =>
    have z := B q o e hq
    rw [h] at z
    cases z
end Tw
/-! Tw: 3 * x, x of an own class. -/
namespace Tw
open PySem PySem.Spec PyProof.Rows L2 He
theorem int_mul_inst (a : Int) (t : Tok) (y : Addr) (ox : Obj) (hd : ox.data = .plain) :
    Meets (Builtin.«int.__mul__» ⟨[.int a t, .ref y], []⟩) (fun _ R s => s.heap.get? y = some ox ∧ R (.ok (.ret Value.notImplemented)) s) :=
  .of_wp fun prog w A R s h => by
    obtain ⟨hp, g, d, tk, os⟩ := s
    obtain ⟨hl, h⟩ := h
    obtain ⟨oc, od, dt, sl⟩ := ox
    cases hd
    wp_walk
    exact ⟨_, rfl, h⟩
theorem int_mul_dec {prog : Program} {w : World} {A : Around} {E : Value → Shared → Prop} {s : Shared} {a : Int} {t : Tok} {y : Addr} {oy : Obj} {Q : Value → Shared → Prop} (J : s.heap.get? y = some oy) (hd : oy.data = .plain) (h : Q .notImplemented s) :
    wpAny (model prog w) A (call (.builtin "int.__mul__") [.int a t, .ref y]) Q E s := by
  refine call_meets (T := "int") (name := PySem.dunder "mul") (id := "int.__mul__") (self := .int a t) (rest := [.ref y]) F.slot_int_mul (typeIs_int s a t) F.entry_int_mul (F.args_int_mul_2 (.int a t) (.ref y)) (int_mul_inst a t y oy hd) ?_
  exact ⟨J, h⟩
theorem int_try {prog : Program} {w : World} {A : Around} {E : Value → Shared → Prop} {s : Shared} {a : Int} {t : Tok} {y : Addr} (nm : Str) (sl : Slot "int" nm "int.__mul__")
    (h0 : wpAny (model prog w) A (call (.builtin "int.__mul__") [.int a t, .ref y]) (fun v s' => v = .notImplemented ∧ (none : Option Value) = none ∧ s' = s) E s) :
    wpAny (model prog w) A (tryMethod (.int a t) nm (.ref y)) (fun r s' => r = none ∧ s' = s) E s := by
  exact wpAny_tryMethod_declines (T := "int") (id := "int.__mul__") (Q := fun r s' => r = none ∧ s' = s) (typeIs_int s a t) sl h0
open PySem.W in
theorem bin_reflI {prog : Program} {w : World} {A : Around} {E : Value → Shared → Prop} {s : Shared} {K : Frag} {y C f f0 : Addr} {oy : Obj} {od : Option Obj} {a : Int} {t : Tok} {ro : Option Value} {Q : Value → Shared → Prop}
    (Y : K.In s.heap) (J : InstAt s.heap y oy C od) (hd : oy.data = .plain) (c : OwnB K C (PySem.dunderR "mul") f) (hm0 : findIn K (.ref C) (PySem.dunder "mul") = some (some (.ref f0)))
    (h2 : findIn K (.type "int") (PySem.dunderR "mul") = some ro) (hsub : subIn K (.ref C) (.type "int") = some false)
    (h : wpAny (model prog w) A (call (.ref f) [.ref y, .int a t]) (PySem.W.CmpBack Q) E s) : wpAny (model prog w) A (binaryOp .Mult (.int a t) (.ref y)) Q E s := by
  obtain ⟨cd, rest, hcd, hm⟩ := ksp_first c.self1
  have one := ksp_try Y J c.at_ c.fn h
  have dec : wpAny (model prog w) A (tryMethod (.int a t) (PySem.dunder "mul") (.ref y)) (fun r s' => r = none ∧ s' = s) E s := int_try (PySem.dunder "mul") F.slot_int_mul (int_mul_dec J.1 hd ⟨rfl, rfl, rfl⟩)
  obtain ⟨hh, g, d, tt, os⟩ := s
  have L1 : Looks (model prog w) hh (typeOf (.ref y)) (.ref C) := J.type
  have L2 : Looks (model prog w) hh (typeOf (.int a t)) (.type "int") := Looks.of_pure rfl
  have L3 : Looks (model prog w) hh (fillsNumberSlot (.ref C) "mul") true := fills_K Y hcd hm hm0
  have L4 : Looks (model prog w) hh (fillsNumberSlot (.type "int") "mul") true := Looks.of_pure F.fills_int_mul
  have L5 : Looks (model prog w) hh (isSubtype (.ref C) (.type "int")) false := looks_subIn Y hsub
  have L7 : Looks (model prog w) hh (numberSlotInPython (.type "int") "mul") false := Looks.of_pure rfl
  have hne : (Value.type "int" == Value.ref C) = false := Bool.eq_false_iff.mpr fun q => by cases beq_iff_eq.mp q
  have hi : Operator.Mult.info = ("*", "mul") := rfl
  simp only [binaryOp, hi]
  refine wpAny_holding (wpAny_bind ?_)
  unfold binaryOp1
  refine wpAny_bind (L2.at (wpAny_bind (L1.at (wpAny_bind (L4.at ?_)))))
  simp only [hne, Bool.false_eq_true, if_false]
  ksp_lk
  refine wpAny_mono dec (fun r s' hr' => ?_) fun _ _ e => e
  obtain ⟨rfl, rfl⟩ := hr'
  ksp_lk
  refine wpAny_mono one (fun r s' hr' => ?_) fun _ _ e => e
  obtain ⟨v, rfl, hq⟩ := hr'
  ksp_lk
  exact hq

section
variable {X : Cx} {CX : CXT} {k : Nat} {f C : Addr} {fd : FuncData} {ps : List Str} {sp : Sp} {E : XK}
/-- 3 * x -/
def rBinRI (C : Addr) (sp : Sp) (E : XK) : R2 := fun x y H Q => ∃ (i : Int) (a dx : Addr) (fs : List (Str × V)), x = .int i ∧ y = .ref a ∧ H a = some (.ins C dx fs) ∧ sp [y, x] H Q E
theorem op_binRI {f0 : Addr} (c : OwnB X.K C (PySem.dunderR "mul") f) (c0 : OwnB X.K C (PySem.dunder "mul") f0) (t : BinT X.K C .Mult "int") (hsub : PySem.W.subIn X.K (.ref C) (.type "int") = some false)
    (F : FnOk X.prog X.w X.K X.mg X.base CX k f fd ps sp) (hr : Room k X.A) (hb : Binds X.K fd ps []) (hx : Passes CX X E) : OpR X (binaryOp .Mult) (rBinRI C sp E) := by
  intro pins s σ H x y v u Q I rx ry h
  obtain ⟨i, a, dx, fs, rfl, rfl, ea, q⟩ := h
  cases (show u = Value.ref a from ry)
  obtain ⟨tk, rfl⟩ := rx
  obtain ⟨ox, od, J, hd⟩ := StX.insC_at I (C := C) (.inr ⟨dx, fs, ea⟩)
  obtain ⟨ro, h2⟩ := t.r
  refine bin_reflI I.kIn J hd c c0.at_ h2 hsub ?_
  refine wpAny_mono (run_fn (dvs := []) (ds := []) (us := [.ref a, .int i tk]) (vs := [.ref a, .int i]) F hr hb .nil hx I (.cons rfl (.cons ⟨tk, rfl⟩ .nil)) q) (fun w s' z => ?_) fun _ _ x => x
  obtain ⟨z', H', I', rz, qz⟩ := z
  exact SlX.cmpback rz ⟨z', H', I', rz, qz⟩
end
end Tw
/-! Tw: lambdas: a try whose clause knows how many names there are; the head's hook with tables of code objects. -/
namespace Tw
open PySem PySem.Spec PyProof.Rows L2 He
/-- what the clause wishes: its error stands tracked behind the suite -/
def wAsL (K : PySem.W.Frag) (c : Value) (i : Nat) (ts : Addr → Value → Option Addr → TS) (Wout : WX) (n : Nat) (D : Ends) : WX := fun cls d σ H => σ.length = n →
  ∃ (C : Addr) (b : Bool), cls = .ref C ∧ PySem.W.exmOne K cls c = some b ∧ (b = true → ∀ a, H a = none → ts a cls d { nx := fun σ' H' => D.nx (σ'.set i none) (upd H' a (exT a C d)), rt := D.rt, bk := fun σ' H' => D.bk (σ'.set i none) H', ct := fun σ' H' => D.ct (σ'.set i none) H' } (σ.set i (some (.ref a))) H) ∧
    (b = false → Wout cls d σ H)
section
variable {X : Cx} {x n : Str} {c : Value} {i : Nat} {body suite : List Stmt} {b₀ : Stmt} {np pos pos' : Pos} {tb : WX → TS} {ts : Addr → Value → Option Addr → TS} {Wout : WX}
theorem ps_tryL (hex : X.ex = []) (hs : X.stack = X.env :: X.outer) (hf : X.env.frame = some X.env.locals) (hN : X.N.Nodup) (hi : X.N[i]? = some n) (hln : X.env.kindOf n = some .local) (hc : Names X x c) (tk : Takes X Wout)
    (hb : ∀ (W : WX) (pn : List (Addr × Obj)) (xe : Value → Shared → Prop), Takes (X.tr pn xe) W → PassesOwn (model X.prog X.w) X.A X.env xe → PSs (X.tr pn xe) body (tb W))
    (hsu : ∀ (a : Addr) (oe : Obj) (cls : Value) (d : Option Addr) (pn : List (Addr × Obj)), Zc cls d oe → (∃ vs, oe.data = .fields vs) → PSs (X.suite a ((a, oe) :: pn)) (b₀ :: suite) (ts a cls d)) :
    PS X (.Try body [.ExceptHandler (some (.Name x np)) (some n) (b₀ :: suite) pos'] [] [] pos) (fun D σ H => tb (wAsL X.K c i ts Wout X.N.length D) D σ H) := by
  refine ⟨fun pins s σ H D I h => ?_⟩
  have ok := I.ok
  have hfr : X.A.frames = some (X.env :: X.outer) := by rw [ok.frames, hs]
  have hloc : Loc X.env.scope n := .inl hln
  refine wpAny_Try_except ?_
  refine wpAny_mono ((hb (wAsL X.K c i ts Wout X.N.length D) (X.pn ++ pins) (fun e s₁ => wpAny (model X.prog X.w) X.A (noteFrame e X.env) (fun _ s₂ => wpAny (model X.prog X.w) X.A (setFlight e none) (fun _ s₃ =>
    wpAny (model X.prog X.w) X.A (handleBy e X.env [.ExceptHandler (some (.Name x np)) (some n) (b₀ :: suite) pos']) (SP X pins D) X.xe s₃) X.xe s₂) X.xe s₁) (fun u s' xx => ?_) PassesOwn.looking).run [] s σ H D (I.toTry _) h) (fun f s1 hsp => ?_) (fun e s1 he => he)
  · obtain ⟨a, B, sI, pins', σ', H', cls, d, rfl, J', nb, up, sky, na, os, ag, hw⟩ := xx
    obtain ⟨C, b, hcls, hb1, hyes, hno⟩ := hw J'.len
    have J : Inv X pins σ' H' sI := J'.ofTry ok
    have sky' : Sky B (X.env :: X.outer) a (Zc cls d) X.env.locals s'.heap := by rw [← hs]; exact sky
    show wpAny (model X.prog X.w) X.A (noteFrame (.ref a) X.env) _ _ _
    refine Sky.land Zc.steady hfr hf sky' fun h3 fl3 up3 => ?_
    have J3 : Inv X pins σ' H' { s' with heap := h3 } := J.landed nb fl3.1 (up.trans up3) os ag
    obtain ⟨oe3, vs3, he3, hz3, hd3⟩ := fl3.there
    have notFr : ∀ {h : Heap} {o : Obj} {vs : Array Value}, h.FunFrames B (X.env :: X.outer) → h.get? a = some o → o.data = .fields vs → a ∉ frs (X.env :: X.outer) := fun {h o vs} ff e dd hm => by
      obtain ⟨_, o', e', hnf⟩ := ff.mem hm
      rw [e] at e'
      cases e'
      exact hnf _ dd
    have nfr := notFr fl3.2.2.1 he3 hd3
    have nL : a ≠ X.env.locals := fun z => nfr (List.mem_filterMap.mpr ⟨X.env, List.mem_cons_self, by rw [hf, z]⟩)
    have nF : a ∉ X.fs := fun hm => by
      obtain ⟨e, he, q⟩ := List.mem_filterMap.mp hm
      exact nfr (List.mem_filterMap.mpr ⟨e, List.mem_cons_of_mem _ he, q⟩)
    -- the error is new to this def
    have nI : sI.heap.get? a = none := by
      cases e : sI.heap.get? a with
      | none => rfl
      | some o =>
        have z := nb a o e (by rw [hs]; exact nfr)
        have z2 : B.get? a = none := fl3.2.1
        rw [z2] at z
        cases z
    have n0 : X.s_0.heap.get? a = none := by
      cases e : X.s_0.heap.get? a with
      | none => rfl
      | some o =>
        obtain ⟨o', z⟩ := J.base.there a o e (by rw [hex]; exact fun z => nomatch z)
        rw [nI] at z
        cases z
    have npin : ∀ p ∈ X.pn ++ pins, p.1 ≠ a := fun p hp z => by
      obtain ⟨e, _⟩ := J.pin p hp
      rw [z, nI] at e
      cases e
    have S3 := J3.suite he3 hd3 na nL nF
    refine wpAny_handleBy_cons (codeAny_handlers_test ?_) (by intro q; cases q)
    have LT : PySem.W.Looks (model X.prog X.w) h3 (typeOf (.ref a)) cls := fun A Q E s k q => wpAny_typeOf_ref (k _ _ he3) (by rw [hz3.1]; exact q)
    have LM := PySem.W.exm_one (M := model X.prog X.w) (J3.kIn) LT hb1
    have test : ∀ {Q : Value → Shared → Prop} {E : Value → Shared → Prop}, Q c { s' with heap := h3 } → wpAny (model X.prog X.w) (X.A.mark (some (.ref a))) (eval (.Name x np) X.env) Q E { s' with heap := h3 } := fun {Q E} q => by
      obtain ⟨hg, hdbg, hm | ⟨hm, hv, hnn⟩⟩ := hc
      · exact ld_glob (X := X.suite a ((a, oe3) :: (X.pn ++ pins))) S3 hg hm q hdbg
      · exact ld_blt (X := X.suite a ((a, oe3) :: (X.pn ++ pins))) S3 hg hm hv q hnn hdbg
    refine test (LM.here ?_)
    cases b with
    | true =>
      refine codeAny_handlers_suite_as ?_
      refine HandSPX.lands_againZ fl3 fun h4 fl4 up4 => ?_
      have J4 : Inv X pins σ' H' { s' with heap := h4 } := J.landed nb fl4.1 ((up.trans up3).trans up4) os ag
      obtain ⟨oe4, vs4, he4, hz4, hd4⟩ := fl4.there
      have S4 := J4.suite he4 hd4 na nL nF
      refine store_ok (X := X.suite a ((a, oe4) :: (X.pn ++ pins))) (v := .ref a) S4 hN hi hloc rfl (fun s5 S5 => ?_) (.inr hln)
      refine wpAny_mono ((hsu a oe4 cls d (X.pn ++ pins) hz4 ⟨_, hd4⟩).run [] s5 _ H' _ S5 (hyes rfl a na)) (fun f s6 hsp => ?_) (fun _ _ z => False.elim z)
      have end_ : ∀ {σ6 : L2.St} {H6 : Hp} {Q : Shared → Prop}, Inv (X.suite a ((a, oe4) :: (X.pn ++ pins))) [] σ6 H6 s6 → (∀ s7, Inv X ((a, oe4) :: pins) (σ6.set i none) H6 s7 → Q s7) →
          wpAny (model X.prog X.w) X.A (do bindName X.env n .none; unbindBehindTheSuite X.env n pos') (fun _ s7 => Q s7) X.xe s6 := fun {σ6 H6 Q} S6 hq => by
        have J6 : Inv X ((a, oe4) :: pins) σ6 H6 s6 := (S6.unsuite ok).pins_of fun p hp => S6.pin p (List.mem_append_left _ (by
          rcases List.mem_cons.mp hp with z | z
          · exact List.mem_cons.mpr (.inl z)
          · exact List.mem_cons_of_mem _ (List.mem_append_right _ z)))
        exact gone_ok J6 hN hi hln hq
      have drop : ∀ {σ7 : L2.St} {H7 : Hp} {s7 : Shared}, Inv X ((a, oe4) :: pins) σ7 H7 s7 → Inv X pins σ7 H7 s7 := fun J7 => J7.pins_of fun p hp => J7.pin p (List.mem_append_right _ (List.mem_cons_of_mem _ hp))
      subst hcls
      cases f with
      | next =>
        obtain ⟨σ6, H6, S6, q6⟩ := hsp
        exact end_ S6 fun s7 J7 => ⟨_, _, track J7 n0 npin hz4 hd4, q6⟩
      | brk =>
        obtain ⟨σ6, H6, S6, q6⟩ := hsp
        exact end_ S6 fun s7 J7 => ⟨_, _, drop J7, q6⟩
      | cont =>
        obtain ⟨σ6, H6, S6, q6⟩ := hsp
        exact end_ S6 fun s7 J7 => ⟨_, _, drop J7, q6⟩
      | ret u =>
        obtain ⟨v6, σ6, H6, S6, r6, q6⟩ := hsp
        exact end_ S6 fun s7 J7 => ⟨_, _, _, drop J7, r6, q6⟩
    | false =>
      show wpAny _ X.A (handleBy (.ref a) X.env []) _ _ _
      refine wpAny_handleBy_nil ?_
      obtain ⟨k1, k2, k3, oe, vs, T, oT, ts', he, hz, hd, h1, hr⟩ := id fl3
      unfold PySem.passOn
      refine wpAny_bind (wpAny_field he hd h1 ?_)
      rw [if_neg (show ¬ ((Value.ref T == Value.none) = true) from by simp)]
      have fin : wpAny (model X.prog X.w) X.A (setFlight (.ref a) X.env.frame) (fun _ s4 => wpAny (model X.prog X.w) X.A (throw (.ref a) : Sem Flow) (SP X pins D) X.xe s4) X.xe { s' with heap := h3 } := by
        rw [hf]
        refine HandSPX.setFlight_upZ fl3 fun h4 hh4 up4 => wpAny_throw (tk _ _ ?_)
        exact ⟨a, B, sI, pins, σ', H', cls, d, rfl, J, nb, (up.trans up3).trans up4, .inr (.inr (by rw [hs]; exact hh4)), na, os, ag, hno rfl⟩
      first
        | exact wpAny_bind (wpAny_pure (wpAny_bind fin))
        | exact wpAny_bind fin
  · cases f with
    | next =>
      obtain ⟨σ', H', J', q⟩ := hsp
      exact wpAny_execs_nil ⟨σ', H', J'.ofTry ok, q⟩
    | brk =>
      obtain ⟨σ', H', J', q⟩ := hsp
      exact ⟨σ', H', J'.ofTry ok, q⟩
    | cont =>
      obtain ⟨σ', H', J', q⟩ := hsp
      exact ⟨σ', H', J'.ofTry ok, q⟩
    | ret u =>
      obtain ⟨v, σ', H', J', r, q⟩ := hsp
      exact ⟨v, σ', H', J'.ofTry ok, r, q⟩
end

/-! ### the hook with empty tables of code objects -/
def codeAt (K : Fg) (f : Addr) : Addr := match K.lookup f with
  | some ⟨_, _, .func fd, _⟩ => (match fd.code with
    | .ref c => c
    | _ => 0)
  | _ => 0
def tabAt (K : Fg) (f : Addr) : Addr := match K.lookup (codeAt K f) with
  | some ⟨_, _, .fields vs, _⟩ => (match (vs[11]? : Option Value) with
    | some (.ref P) => P
    | _ => 0)
  | _ => 0
def isTab : Option Obj → Bool
  | some ⟨.none, none, .fields vs, sl⟩ => vs.isEmpty && sl.isEmpty
  | _ => false
theorem isTab_ok {o : Option Obj} (h : isTab o = true) : o = some { cls := .none, data := .fields #[] } := by
  unfold isTab at h
  split at h
  · rename_i vs sl
    obtain ⟨h1, h2⟩ := ba h
    have e1 : vs = #[] := by simpa using h1
    have e2 : sl = #[] := by simpa using h2
    rw [e1, e2]
  · cases h
/-- the def at f: its code object and the table of it -/
def tabB (K : Fg) (f : Addr) : Bool := PySem.W.codeHdIn K (codeAt K f) (tabAt K f) && (K.lookup (tabAt K f)).isNone
abbrev AlL : Type := AlD × List Bool
def obsL (n : Nat) (fs : Fz) (fn : List DefD) (ls : List (Fg → Addr)) (g : Addr → Option Obj) : AlL := (obsYG n fs fn g, ls.map fun f => isTab (g (tabAt (frG g (asD g n)) (f (frG g (asD g n))))))
def hookL (n : Nat) (fs : Fz) (fn : List DefD) (ls : List (Fg → Addr)) : PySem.W.Hook where
  α := AlL
  obs := fun s => obsL n fs fn ls s.heap.get?
  val := fun _ => (valD fn, ls.map fun _ => true)
  says := fun _ h => ∃ K : Fg, K.In h ∧ SaysY fs fn K ∧ ∀ f ∈ ls, isTab (h.get? (tabAt K (f K))) = true
  of := fun _ s e => ⟨_, frG_in, congrArg (fun z : AlL => z.1) e, fun f hf => List.map_inj_left.mp (congrArg (fun z : AlL => z.2) e) f hf⟩
  keeps := fun _ _ _ ⟨K, hK, c, t⟩ k => ⟨K, PySem.W.Frag.In.keeps hK k, c, fun f hf => by
    have e := isTab_ok (t f hf)
    rw [k _ _ e]
    rfl⟩
theorem obsL_eq {n : Nat} {fs : Fz} {fn : List DefD} {ls : List (Fg → Addr)} {g : Addr → Option Obj} {s : Shared} (h : ∀ a, g a = s.heap.get? a) : obsL n fs fn ls g = (hookL n fs fn ls).obs s := by
  have e : g = s.heap.get? := funext h
  rw [e] <;> rfl

/-! ### x[i] = v by an own __setitem__ -/
section
variable {X : Cx} {CX : CXT} {k : Nat} {f C : Addr} {fd : FuncData} {ps : List Str} {sp : Sp} {E : XK}
def setOwn (C : Addr) (sp : Sp) (E : XK) : V → V → V → Hp → (Hp → Prop) → Prop := fun o i v H Q => ∃ (a dx : Addr) (fs : List (Str × V)), o = .ref a ∧ H a = some (.ins C dx fs) ∧ sp [o, i, v] H (fun _ H' => Q H') E
theorem pset_own (hq : PySem.W.noSeq X.K C = true) (hs : PySem.W.findIn X.K (.ref C) "__setitem__" = some (some (.ref f))) (hf : PySem.W.isFn X.K (.ref f) = true) (F : FnOk X.prog X.w X.K X.mg X.base CX k f fd ps sp) (hr : Room k X.A) (hb : Binds X.K fd ps []) (hx : Passes CX X E) : PSet X (setOwn C sp E) := by
  intro pins s σ H o i v ov iv u Q I ro ri rv h
  obtain ⟨a, dx, fs, rfl, ea, q⟩ := h
  cases (show ov = Value.ref a from ro)
  obtain ⟨od, ox, J⟩ := inst_at I ea
  obtain ⟨m, fr⟩ := I.fr
  refine PySem.W.ksp_setItem fr I.ok.mod.kin J hq hs hf ?_
  refine wpAny_mono (run_fn (dvs := []) (ds := []) (us := [.ref a, iv, u]) (vs := [.ref a, i, v]) F hr hb .nil hx I (.cons rfl (.cons ri (.cons rv .nil))) q) (fun w s' z => ?_) fun _ _ x => x
  obtain ⟨z', H', I', rz, qz⟩ := z
  exact ⟨H', I', qz⟩
end
end Tw
/-! Tw: the head's hook with defs at any address (methods behind staticmethod, classmethod, property). -/
namespace Tw
open PySem PySem.Spec PyProof.Rows L2 He
abbrev DefA := He5.DefA
abbrev AlA : Type := (Bool × List FnW) × List (Option (List (Option (Str × Int))))
def obsA (fs : Fz) (fn : List DefA) (ts : List Tab) (K : Fg) : AlA := (((fs.all fun f => f K) && fn.all fun d => d.ok K, fn.map fun d => He5.fnA K (d.at_ K)), ts.map fun t => dicW K (t.1 K))
def valA (fn : List DefA) (ts : List Tab) (w : World) : AlA := ((true, fn.map He5.DefA.val), ts.map fun t => some (keysIn w.params t.2))
def obsAG (n : Nat) (fs : Fz) (fn : List DefA) (ts : List Tab) (g : Addr → Option Obj) : AlA := obsA fs fn ts (frG g (asD g n ++ [cStatics]))
def SaysA (fs : Fz) (fn : List DefA) (ts : List Tab) (w : World) (K : Fg) : Prop := obsA fs fn ts K = valA fn ts w
def hookA (n : Nat) (fs : Fz) (fn : List DefA) (ts : List Tab) : PySem.W.Hook where
  α := AlA
  obs := fun s => obsAG n fs fn ts s.heap.get?
  val := fun w => valA fn ts w
  says := fun w h => ∃ K : Fg, K.In h ∧ SaysA fs fn ts w K
  of := fun _ _ e => ⟨_, frG_in, e⟩
  keeps := fun _ _ _ ⟨K, hK, c⟩ k => ⟨K, PySem.W.Frag.In.keeps hK k, c⟩
theorem obsAG_eq {n : Nat} {fs : Fz} {fn : List DefA} {ts : List Tab} {g : Addr → Option Obj} {s : Shared} (h : ∀ a, g a = s.heap.get? a) : obsAG n fs fn ts g = (hookA n fs fn ts).obs s := by
  have e : g = s.heap.get? := funext h
  rw [e] <;> rfl
abbrev DefsA (fn : List DefA) (K : Fg) (fd : Nat → FuncData) : Prop := ∀ (i : Nat) (d : DefA), fn[i]? = some d → FunD K d.name d.qual d.params d.body d.scope (d.dvs K) (d.kws K) (d.at_ K) (fd i)
section
variable {fs : Fz} {fn : List DefA} {ts : List Tab} {w : World} {K : Fg}
theorem SaysA.fact (c : SaysA fs fn ts w K) (i : Nat) {f : Fg → Bool} (h : fs[i]? = some f) : f K = true := by
  have c1 := (ba (show ((fs.all fun f => f K) && fn.all fun d => d.ok K) = true from congrArg (fun z : AlA => z.1.1) c)).1
  exact List.all_eq_true.mp c1 f (List.mem_of_getElem? h)
theorem SaysA.def_ (c : SaysA fs fn ts w K) (i : Nat) {d : DefA} (h : fn[i]? = some d) : ∃ fd, FunD K d.name d.qual d.params d.body d.scope (d.dvs K) (d.kws K) (d.at_ K) fd := by
  have c2 := (ba (show ((fs.all fun f => f K) && fn.all fun d => d.ok K) = true from congrArg (fun z : AlA => z.1.1) c)).2
  have e : fn.map (fun d => He5.fnA K (d.at_ K)) = fn.map He5.DefA.val := congrArg (fun z : AlA => z.1.2) c
  have e2 : (fn.map fun d => He5.fnA K (d.at_ K))[i]? = (fn.map He5.DefA.val)[i]? := by rw [e]
  rw [List.getElem?_map, List.getElem?_map, h] at e2
  exact He5.DefA.funD (Option.some.inj e2) (List.all_eq_true.mp c2 d (List.mem_of_getElem? h))
theorem SaysA.tab (c : SaysA fs fn ts w K) (i : Nat) {t : Tab} (h : ts[i]? = some t) : ∃ es n, KDict K w (t.1 K) es n := by
  have e : ts.map (fun t => dicW K (t.1 K)) = ts.map fun t => some (keysIn w.params t.2) := congrArg (fun z : AlA => z.2) c
  have e2 : (ts.map fun t => dicW K (t.1 K))[i]? = (ts.map fun t => some (keysIn w.params t.2))[i]? := by rw [e]
  rw [List.getElem?_map, List.getElem?_map, h] at e2
  exact dicW_ok (Option.some.inj e2)
theorem SaysA.defs (c : SaysA fs fn ts w K) {d0 : DefA} (h0 : fn[0]? = some d0) : ∃ fd : Nat → FuncData, DefsA fn K fd := by
  obtain ⟨u0, _⟩ := c.def_ 0 h0
  have h : ∀ i : Nat, ∃ u : FuncData, ∀ d : DefA, fn[i]? = some d → FunD K d.name d.qual d.params d.body d.scope (d.dvs K) (d.kws K) (d.at_ K) u := fun i => by
    cases e : fn[i]? with
    | none => exact ⟨u0, fun d z => nomatch z⟩
    | some d =>
      obtain ⟨u, hu⟩ := c.def_ i e
      exact ⟨u, fun d' z => by
        cases z
        exact hu⟩
  exact ⟨fun i => Classical.choose (h i), fun i d e => Classical.choose_spec (h i) d e⟩
end
/-- what the walk asks of the written part and of the module's names -/
structure TxtA (fs : Fz) (fn : List DefA) (ts : List Tab) (w : World) (K : Fg) (mg : Str → Option Value) : Prop where
  c : SaysA fs fn ts w K
  gl : ∀ x, (Fa.glo x).ok K = true → mg x = some (.ref (ga K x))
  fr : ∀ x, (Fa.free x).ok K = true → mg x = none
  nt : ∀ x i, (Fa.int x i).ok K = true → ∃ t, mg x = some (.int i t)
  tx : ∀ x z, (Fa.str x z).ok K = true → ∃ t, mg x = some (.str z t)
theorem TxtA.fact {fs : Fz} {fn : List DefA} {ts : List Tab} {w : World} {K : Fg} {mg : Str → Option Value} (T : TxtA fs fn ts w K mg) (i : Nat) {f : Fg → Bool} (h : fs[i]? = some f := by rfl) : f K = true := T.c.fact i h
end Tw
/-! Tw: the head's hook for laws with lambdas: defs at any address, the tables of code objects left out of the fragment and told empty. -/
namespace Tw
open PySem PySem.Spec PyProof.Rows L2 He
def obsZ (fs : Fz) (fn : List DefA) (K : Fg) : AlD := ((fs.all fun f => f K) && fn.all fun d => d.ok K, fn.map fun d => He5.fnA K (d.at_ K))
def valZ (fn : List DefA) : AlD := (true, fn.map He5.DefA.val)
def SaysZ (fs : Fz) (fn : List DefA) (K : Fg) : Prop := obsZ fs fn K = valZ fn
section
variable {fs : Fz} {fn : List DefA} {K : Fg}
theorem SaysZ.fact (c : SaysZ fs fn K) (i : Nat) {f : Fg → Bool} (h : fs[i]? = some f := by rfl) : f K = true := by
  obtain ⟨c1, _⟩ := ba (congrArg (fun z : AlD => z.1) (show obsZ fs fn K = valZ fn from c))
  exact of_all (f := fun f : Fg → Bool => f K) c1 (List.mem_of_getElem? h)
theorem SaysZ.def_ (c : SaysZ fs fn K) (i : Nat) {d : DefA} (h : fn[i]? = some d) : ∃ fd, FunD K d.name d.qual d.params d.body d.scope (d.dvs K) (d.kws K) (d.at_ K) fd := by
  obtain ⟨_, c2⟩ := ba (congrArg (fun z : AlD => z.1) (show obsZ fs fn K = valZ fn from c))
  have e2 : fn.map (fun d => He5.fnA K (d.at_ K)) = fn.map He5.DefA.val := congrArg (fun z : AlD => z.2) c
  have e3 := congrArg (fun l : List FnW => l[i]?) e2
  simp only [List.getElem?_map, h, Option.map_some] at e3
  exact He5.DefA.funD (Option.some.inj e3) (of_all (f := fun d : DefA => d.ok K) c2 (List.mem_of_getElem? h))
theorem SaysZ.defs (c : SaysZ fs fn K) {d0 : DefA} (h0 : fn[0]? = some d0) : ∃ fd : Nat → FuncData, DefsA fn K fd := by
  obtain ⟨u0, _⟩ := c.def_ 0 h0
  have h : ∀ i : Nat, ∃ u : FuncData, ∀ d : DefA, fn[i]? = some d → FunD K d.name d.qual d.params d.body d.scope (d.dvs K) (d.kws K) (d.at_ K) u := fun i => by
    by_cases hi : ∃ d, fn[i]? = some d
    · obtain ⟨d, hd⟩ := hi
      obtain ⟨u, hu⟩ := c.def_ i hd
      refine ⟨u, fun d' z => ?_⟩
      rw [hd] at z
      rw [← Option.some.inj z]
      exact hu
    · exact ⟨u0, fun d z => absurd ⟨d, z⟩ hi⟩
  obtain ⟨fd, hf⟩ := Classical.axiomOfChoice h
  exact ⟨fd, fun i d e => hf i d e⟩
end
/-- the written part without the tables of these defs -/
def frZ (n : Nat) (ls : List (Fg → Addr)) (g : Addr → Option Obj) : Fg := frG g ((asD g n ++ [cStatics]).filter fun a => !((ls.map fun f => tabAt (frG g (asD g n)) (f (frG g (asD g n)))).contains a))
def obsZG (n : Nat) (fs : Fz) (fn : List DefA) (ls : List (Fg → Addr)) (g : Addr → Option Obj) : AlL := (obsZ fs fn (frZ n ls g), ls.map fun f => isTab (g (tabAt (frZ n ls g) (f (frZ n ls g)))))
def hookZ (n : Nat) (fs : Fz) (fn : List DefA) (ls : List (Fg → Addr)) : PySem.W.Hook where
  α := AlL
  obs := fun s => obsZG n fs fn ls s.heap.get?
  val := fun _ => (valZ fn, ls.map fun _ => true)
  says := fun _ h => ∃ K : Fg, K.In h ∧ SaysZ fs fn K ∧ ∀ f ∈ ls, isTab (h.get? (tabAt K (f K))) = true
  of := fun _ s e => by
    have e2 : (ls.map fun f => isTab (s.heap.get? (tabAt (frZ n ls s.heap.get?) (f (frZ n ls s.heap.get?))))) = ls.map fun _ => true := congrArg (fun z : AlL => z.2) e
    exact ⟨_, frG_in, congrArg (fun z : AlL => z.1) e, fun f hf => List.map_inj_left.mp e2 f hf⟩
  keeps := fun _ _ _ ⟨K, hK, c, t⟩ k => ⟨K, PySem.W.Frag.In.keeps hK k, c, fun f hf => by
    rw [k _ _ (isTab_ok (t f hf))]
    rfl⟩
theorem obsZG_eq {n : Nat} {fs : Fz} {fn : List DefA} {ls : List (Fg → Addr)} {g : Addr → Option Obj} {s : Shared} (h : ∀ a, g a = s.heap.get? a) : obsZG n fs fn ls g = (hookZ n fs fn ls).obs s := by
  rw [show g = s.heap.get? from funext h]
  rfl
/-- what the walk asks of the written part and of the module's names -/
structure TxtZ (fs : Fz) (fn : List DefA) (K : Fg) (mg : Str → Option Value) : Prop where
  c : SaysZ fs fn K
  gl : ∀ x, (Fa.glo x).ok K = true → mg x = some (.ref (ga K x))
  fr : ∀ x, (Fa.free x).ok K = true → mg x = none
  nt : ∀ x i, (Fa.int x i).ok K = true → ∃ t, mg x = some (.int i t)
  tx : ∀ x z, (Fa.str x z).ok K = true → ∃ t, mg x = some (.str z t)
theorem txtZ {fs : Fz} {fn : List DefA} {K : Fg} {h : Heap} {mg : Str → Option Value} (X : K.In h) (G : h.Ns mainGlobals mg) (c : SaysZ fs fn K) : TxtZ fs fn K mg :=
  ⟨c, fun x hx => He.glo_ok X G hx, fun x hx => He.free_ok X G hx, fun x i hx => He.int_ok X G hx, fun x z hx => He.str_ok X G hx⟩
theorem TxtZ.fact {fs : Fz} {fn : List DefA} {K : Fg} {mg : Str → Option Value} (T : TxtZ fs fn K mg) (i : Nat) {f : Fg → Bool} (h : fs[i]? = some f := by rfl) : f K = true := T.c.fact i h
/-- the code objects and tables of the defs that make lambdas -/
def csZ (ls : List (Fg → Addr)) (K : Fg) : List (Addr × Addr) := ls.map fun f => (Tw.codeAt K (f K), tabAt K (f K))
end Tw
/-! Tw: a lambda as a value (tracked), and sorted(xs, key=lambda x: x.field). -/
namespace Tw
open PySem PySem.Spec PyProof.Rows L2 He LamX
/-- the function object of a lambda stands at f -/
def FunO (f : Addr) (q : Str) (ps : Arguments) (e : Expr) (sc : Scope) (cl : List (Str × Addr)) (c' : Addr) : HO := .ext fun h => ∃ pm ctv : Value, h.get? f = some (PySem.W.kla_obj "<lambda>" q ps e sc cl pm c' ctv)
theorem funO_ne {f c' : Addr} {q : Str} {ps : Arguments} {e : Expr} {sc : Scope} {cl : List (Str × Addr)} (xs : Array Value) : FunO f q ps e sc cl c' ≠ .tbl xs := fun z => by
  unfold FunO at z
  cases z
section
variable {X : Cx} {pins : List (Addr × Obj)} {σ : L2.St} {H : Hp} {s : Shared}
theorem funO_laid {h' : Heap} {tk : Nat} {q : Str} {ps : Arguments} {e : Expr} {sc : Scope} {cl : List (Str × Addr)} {pm ctv : Value} {c' : Addr} (I : Inv X pins σ H s) (k : ∀ b o, s.heap.get? b = some o → h'.get? b = some o) (hp : s.heap.objs.size ≤ h'.objs.size) :
    Inv X pins σ (upd H h'.objs.size (FunO h'.objs.size q ps e sc cl c')) { s with heap := h'.push (PySem.W.kla_obj "<lambda>" q ps e sc cl pm c' ctv), toks := tk } := by
  have hz : (h'.push (PySem.W.kla_obj "<lambda>" q ps e sc cl pm c' ctv)).get? h'.objs.size = some (PySem.W.kla_obj "<lambda>" q ps e sc cl pm c' ctv) := Heap.get?_push_size _ rfl
  refine I.laid (fun b o z => Heap.get?_push_of_some _ (k b o z)) hp ?_
  exact ⟨⟨pm, ctv, hz⟩, ⟨_, hz⟩, fun h1 h2 ⟨pm, ctv, z⟩ st => ⟨pm, ctv, st _ z⟩⟩
/-- a lambda is made: its function object tracked -/
theorem lam_laid {T : List (Addr × Str)} {c P : Addr} {ps : Arguments} {e : Expr} {sc : Scope} {pos : Pos} {E : Value → Shared → Prop} {Q : Value → Shared → Prop} (I : Inv X pins σ H s) (TB : TabB X.base X.mg c P) (hcode : X.env.code = .ref c)
    (hm : (P, X.env.qual ++ "<lambda>") ∈ T) (hu : ∀ p ∈ T, p.1 = P → p.2 = X.env.qual ++ "<lambda>") (hT : Tabs T H) (hdef : defaultsOf ps X.env = ([], [])) (hfree : ∀ y ∈ sc.names, y.2 = .free → ∃ c, X.env.cells.lookup y.1 = some c)
    (h : ∀ (f c' : Addr) (H1 : Hp) (s' : Shared), Inv X pins σ H1 s' → ExtN H H1 → Tabs T H1 → H f = none → H1 f = some (FunO f (X.env.qual ++ "<lambda>") ps e sc (cloFrom X.env.cells sc.names []) c') → H1 c' = some (CodeO c' (X.env.qual ++ "<lambda>")) → Q (.ref f) s') :
    wpAny (model X.prog X.w) X.A (eval (.Lambda ps e sc pos) X.env) Q E s := by
  obtain ⟨tb, hP, ht, ha⟩ := hT _ hm
  have bP : s.heap.BuiltinsAt X.mg P := TB.bm.keeps I.bk
  have hP' := I.hok P _ hP
  have gl : s.heap.Ns mainGlobals X.mg := I.mod.glob.keeps I.bk
  have fin : ∀ {f c' : Addr} {H1 : Hp} {o : HO}, H1 f = none → ExtN H H1 → Tabs T H1 → ExtN H (upd H1 f o) ∧ Tabs T (upd H1 f o) := fun {f c' H1 o} n e t =>
    ⟨e.trans (ExtN.of (same_new n)), t.ext (same_new n)⟩
  refine PySem.W.kla_eval hdef ?_
  cases hc : codeAmong pos tb.toList with
  | none =>
    refine PySem.W.kla_makeFunction (c := c) (P := P) (ps := tb) (closure_ok hfree) I.ok.glob
      gl hcode (TB.code.keeps I.bk) hP' ht hc TB.gP bP fun c' ctv h' tk hx hge hlt hrec htb => ?_
    obtain ⟨c2, oc, vs, t, e2, hoc, hd, hv⟩ := hrec
    cases e2
    have nC : H c' = none := I.hok.fresh hge
    have nP : P ≠ c' := ne_of_none hP nC
    have I1 := inv_table (t' := tk) (more := #[rawInt pos.line, rawInt pos.col, .ref c']) I hP hx htb hge
      ⟨oc, vs, t, hoc, hd, hv⟩
    generalize hH1 : upd (upd H P (.tbl (tb ++ #[rawInt pos.line, rawInt pos.col, .ref c']))) c' (CodeO c' (X.env.qual ++ "<lambda>")) = H1 at I1
    have hE : ExtN H H1 := fun b o z n => by
      have n1 : b ≠ P := fun y => n tb (Option.some.inj (z.symm.trans (by rw [y]; exact hP)))
      rw [← hH1, upd_ne (ne_of_none z nC), upd_ne n1]
      exact z
    have atC : H1 c' = some (CodeO c' (X.env.qual ++ "<lambda>")) := by rw [← hH1, upd_same]
    have atP : H1 P = some (.tbl (tb ++ #[rawInt pos.line, rawInt pos.col, .ref c'])) := by rw [← hH1, upd_ne nP, upd_same]
    have eL : (tb ++ #[rawInt pos.line, rawInt pos.col, .ref c']).toList = tb.toList ++ [rawInt pos.line, rawInt pos.col, .ref c'] := by simp
    have T1 : Tabs T H1 := fun p hp => by
      by_cases hb : p.1 = P
      · rw [hu p hp hb, hb]
        refine ⟨_, atP, by rw [eL]; exact PySem.TriplesOk_snoc _ _ _ _ ht, fun p' cv z => ?_⟩
        rw [eL] at z
        rcases among_app _ ht z with y | y
        · obtain ⟨c0, z1, z2⟩ := ha p' cv y
          exact ⟨c0, z1, hE _ _ z2 codeO_ne⟩
        · exact ⟨c', y, atC⟩
      · obtain ⟨tb', a1, a2, a3⟩ := hT p hp
        refine ⟨tb', ?_, a2, fun p' cv z => ?_⟩
        · rw [← hH1, upd_ne (ne_of_none a1 nC), upd_ne hb]
          exact a1
        · obtain ⟨c0, z1, z2⟩ := a3 p' cv z
          exact ⟨c0, z1, hE _ _ z2 codeO_ne⟩
    have nf : H1 h'.objs.size = none := I1.hok.fresh (Nat.le_refl _)
    obtain ⟨f1, f2⟩ := fin (c' := c') (o := FunO h'.objs.size (X.env.qual ++ "<lambda>") ps e sc (cloFrom X.env.cells sc.names []) c') nf hE T1
    refine h h'.objs.size c' _ _ (funO_laid (s := { s with heap := h', toks := tk }) (tk := tk) I1 (fun _ _ z => z) (Nat.le_refl _)) f1 f2 (I.hok.fresh (Nat.le_trans hge (Nat.le_of_lt hlt))) upd_same ?_
    rw [upd_ne (Nat.ne_of_lt hlt)]
    exact atC
  | some cv =>
    obtain ⟨c', e', hco⟩ := ha pos cv hc
    subst e'
    refine PySem.W.kla_makeFunctionHit (c := c) (P := P) (ps := tb) (closure_ok hfree) I.ok.glob
      gl hcode (TB.code.keeps I.bk) hP' ht hc bP fun ctv h' tk hx hsz => ?_
    have nf : H h'.objs.size = none := I.hok.fresh hsz
    obtain ⟨f1, f2⟩ := fin (c' := c') (o := FunO h'.objs.size (X.env.qual ++ "<lambda>") ps e sc (cloFrom X.env.cells sc.names []) c') nf (ExtN.refl H) hT
    refine h h'.objs.size c' _ _ (funO_laid I hx hsz) f1 f2 nf upd_same ?_
    rw [upd_ne (ne_of_none hco nf)]
    exact hco
/-- what is said of a lambda made -/
def tLamV (T : List (Addr × Str)) (q : Str) (ps : Arguments) (e : Expr) (sc : Scope) (cl : List (Str × Addr)) : TE := fun _ H Q => Tabs T H ∧ ∀ (f c' : Addr) (H1 : Hp), ExtN H H1 → Tabs T H1 → H f = none → H1 f = some (FunO f q ps e sc cl c') → H1 c' = some (CodeO c' q) → Q (.ref f) H1
theorem pe_lambda {T : List (Addr × Str)} {c P : Addr} {ps : Arguments} {e : Expr} {sc : Scope} {pos : Pos} (TB : TabB X.base X.mg c P) (hcode : X.env.code = .ref c)
    (hm : (P, X.env.qual ++ "<lambda>") ∈ T) (hu : ∀ p ∈ T, p.1 = P → p.2 = X.env.qual ++ "<lambda>") (hdef : defaultsOf ps X.env = ([], [])) (hfree : ∀ y ∈ sc.names, y.2 = .free → X.env.scope.names.lookup y.1 = some .cell ∨ X.env.scope.names.lookup y.1 = some .free) :
    PE X (.Lambda ps e sc pos) (tLamV T (X.env.qual ++ "<lambda>") ps e sc (cloFrom X.env.cells sc.names [])) := by
  refine ⟨fun pins s σ H Q I h => ?_⟩
  obtain ⟨hT, h⟩ := h
  refine lam_laid I TB hcode hm hu hT hdef (fun y hy z => (hfree y hy z).elim (fun k => I.ok.has _ (.inl k)) fun k => I.ok.has _ (.inr k)) fun f c' H1 s' I1 e1 t1 n1 f1 c1 => ?_
  exact ⟨.ref f, H1, I1, rfl, h f c' H1 e1 t1 n1 f1 c1⟩
/-- a lambda's parameter and its body: x.fld -/
structure KeyL (sc : Scope) (x : Str) : Prop where
  kind : sc.kind = .function
  co : sc.isCoroutine = false
  gen : sc.isGenerator = false
  own : ∀ y ∈ sc.names, y.2 ≠ .cell
  loc : sc.names.lookup x = some .local
  clo : cloFrom [] sc.names [] = []
theorem key_call {f c' a C dx : Addr} {q x fld : Str} {ps : Arguments} {sc : Scope} {p1 p2 : Pos} {fs : List (Str × V)} {k : Int} {A : Around} (I : Inv X pins σ H s) (hf : H f = some (FunO f q ps (.Attribute (.Name x p1) fld p2) sc [] c')) (hc : H c' = some (CodeO c' q)) (L : KeyL sc x) (hd : A.depth < recursionLimit)
    (hbind : ∀ pm cv ctv u, bindArgs (PySem.W.kla_fn "<lambda>" q ps (.Attribute (.Name x p1) fld p2) sc [] pm cv ctv) ⟨[u], []⟩ = pure [(x, u)]) (hb : ∀ env : Env, attributeBase (.Name x p1) fld env (eval (.Name x p1) env) = eval (.Name x p1) env) (hx : (x == ("__debug__" : Str)) = false)
    (ha : H a = some (.ins C dx fs)) (cl : Cls X.K C) (na : NoAttr X.K C fld) (lk : fs.lookup fld = some (.int k)) (h : Heap) (tk : Nat) (up : ∀ b o, s.heap.get? b = some o → h.get? b = some o) :
    wpAny (model X.prog X.w) A (call (.ref f) [.ref a]) (PySem.W.KeyPure (.int k) { s with heap := h, toks := tk }) (fun _ _ => False) { s with heap := h, toks := tk } := by
  obtain ⟨⟨pm, ctv, hfo⟩, _, _⟩ := I.hok f _ hf
  obtain ⟨⟨oc, vs, t, hoc, hdc, hvc⟩, _, _⟩ := I.hok c' _ hc
  obtain ⟨mA, O, r, _, _, _⟩ := ins_get I.hok ha
  obtain ⟨u, hu, ru⟩ := RelO.some_of (v := .int k) (o := mA fld) (by rw [← lk]; exact r fld)
  obtain ⟨tu, rfl⟩ := ru
  refine wpAny_call (codeAny_mono (R := fun r s' => ∃ v, r = .ok (.ret v) ∧ PySem.W.KeyPure (.int k) { s with heap := h, toks := tk } v s') ?_ fun r s' hq => ?_)
  · refine PySem.W.kla_callFunE hd (up _ _ hfo) rfl L.co L.gen rfl ⟨c', oc, vs, t, rfl, up _ _ hoc, hdc, hvc⟩ ?_
    rw [hbind]
    refine wpAny_pure (wpAny_newFunctionEnv L.own (fun y hy => ?_) (fun h₁ hns hsb => ⟨?_, ?_⟩) L.kind)
    · cases List.mem_singleton.mp hy
      exact L.loc
    · exact ((I.nolimit.keeps up)).fresh _ hsb
    · have kp : ∀ b o, h.get? b = some o → h₁.get? b = some o := fun b o e => (hsb.2 b (Nat.ne_of_lt (Heap.lt_size e))).trans (Heap.get?_push_of_some _ e)
      have kp2 : ∀ b o, s.heap.get? b = some o → h₁.get? b = some o := fun b o e => kp b o (up b o e)
      refine PySem.W.kla_codeExpr (attr_of (hb _) (wpAny_Name (wpAny_loadName_local L.kind L.loc hns (v := .ref a) ?_ ?_) hx))
      · simp
      · refine get_map (K := X.K) (mA := mA) ?_ ⟨kp2 _ _ O.obj, O.ns.at fun o q => kp2 _ _ q, O.ne⟩ (cl.get fld) cl.hd na hu (handed_of (v := .int k) ⟨tu, rfl⟩) ?_
        · exact PySem.W.Frag.In.keeps I.kIn kp2
        · exact ⟨_, rfl, _, _, rfl, kp, .int k tu⟩
  · obtain ⟨v, rfl, hv⟩ := hq
    exact hv
/-- y is an instance whose field is the number k -/
def KeyedAt (K : Fg) (H : Hp) (fld : Str) (y : V) (k : Int) : Prop := ∃ (a C dx : Addr) (fs : List (Str × V)), y = .ref a ∧ H a = some (.ins C dx fs) ∧ Cls K C ∧ NoAttr K C fld ∧ fs.lookup fld = some (.int k)
/-- sorted(xs, key=lambda x: x.fld) -/
def rSortedFld (K : Fg) (x fld q : Str) (ps : Arguments) (sc : Scope) (p1 p2 : Pos) : List V → List V → Hp → VK → Prop := fun vs zs H Q => ∃ (l f c' : Addr) (ys : List V) (ks : List Int), vs = [.ref l] ∧ zs = [.ref f] ∧ SqL K H l ys ∧
  H f = some (FunO f q ps (.Attribute (.Name x p1) fld p2) sc [] c') ∧ H c' = some (CodeO c' q) ∧ Paired (KeyedAt K H fld) ys ks ∧
  ∀ p, H p = none → Q (.ref p) (upd H p (.lst (((ys.zip ks).mergeSort fun a b => decide (a.2 ≤ b.2)).map (·.1))))
theorem zip_each {K : Fg} {H : Hp} {fld : Str} : ∀ {ys : List V} {ks : List Int} {its : List Value}, Vals ys its → Paired (KeyedAt K H fld) ys ks → PySem.W.EachIs (fun (v : Value) (b : V × Int) => RelV b.1 v ∧ KeyedAt K H fld b.1 b.2) its (ys.zip ks)
  | _, _, _, .nil, .nil => .nil
  | _, _, _, .cons r rs, .cons k ks => .cons ⟨r, k⟩ (zip_each rs ks)
theorem vals_each {K : Fg} {H : Hp} {fld : Str} : ∀ {out : List Value} {bs : List (V × Int)}, PySem.W.EachIs (fun (v : Value) (b : V × Int) => RelV b.1 v ∧ KeyedAt K H fld b.1 b.2) out bs → Vals (bs.map (·.1)) out
  | _, _, .nil => .nil
  | _, _, .cons h t => .cons h.1 (vals_each t)
theorem cr_sortedFld {q x fld : Str} {ps : Arguments} {sc : Scope} {p1 p2 : Pos} (hr : Room 1 X.A) (L : KeyL sc x)
    (hbind : ∀ pm cv ctv u, bindArgs (PySem.W.kla_fn "<lambda>" q ps (.Attribute (.Name x p1) fld p2) sc [] pm cv ctv) ⟨[u], []⟩ = pure [(x, u)]) (hb : ∀ env : Env, attributeBase (.Name x p1) fld env (eval (.Name x p1) env) = eval (.Name x p1) env) (hx : (x == ("__debug__" : Str)) = false) :
    CallRK X (.builtin "sorted") [Str.ofString "key"] (rSortedFld X.K x fld q ps sc p1 p2) := by
  intro pins s σ H vs zs us ws Q I r rz h
  obtain ⟨l, f, c', ys, ks, rfl, rfl, hs, hf, hc, pr, qk⟩ := h
  obtain rfl := Vals.ref1 r
  obtain ⟨w1, rfl, e1⟩ := vals1 rz
  obtain rfl : w1 = Value.ref f := e1
  obtain ⟨its, rv, hl, hz⟩ := I.list hs
  have ln : ys.length = ks.length := Paired.length pr
  have lz : (ys.zip ks).length = ys.length := by rw [List.length_zip, ← ln, Nat.min_self]
  refine PySem.W.sorted_key_data (β := V × Int) (b := false) (R := fun v b => RelV b.1 v ∧ KeyedAt X.K H fld b.1 b.2) (vs := its) (bs := ys.zip ks) (fun b => .int b.2) hl.isList (zip_each rv pr)
    (PySem.W.AllAlike.of fun _ _ => by simp [PySem.W.alike]) (PySem.W.Sortable.others fun _ => ⟨(fun z => nomatch z), fun _ z => nomatch z⟩) (by rw [lz]; exact hz) (fun b _ => ?_) (PyProof.Rows.ksk_s1 _ _) (fun _ => PyProof.Rows.ksk_l1 _ _) (fun _ => PyProof.Rows.ksk_t1 _ _) (fun v b hR _ h tk up => ?_) fun out c h' tk up hn hD hlen he => ?_
  · have := hr.un
    show X.A.units + 2 + 0 < cLine
    omega
  · obtain ⟨hv, a, C, dx, fs, e, ha, cl, na, lk⟩ := hR
    rw [e] at hv
    obtain rfl : v = Value.ref a := hv
    refine key_call I hf hc L ?_ hbind hb hx ha cl na lk h tk up
    have := hr.dp
    show X.A.depth < recursionLimit
    omega
  · rw [PySem.W.dataLe_int (fun b : V × Int => b.2)] at he
    have hl2 : (((ys.zip ks).mergeSort fun a b => decide (a.2 ≤ b.2)).map (·.1)).length ≤ sizeLine := by
      rw [List.length_map, List.length_mergeSort, lz]
      exact hz
    exact ⟨.ref _, upd H (s.heap.objs.size + 1) (.lst (((ys.zip ks).mergeSort fun a b => decide (a.2 ≤ b.2)).map (·.1))), I.laid up (Nat.le_succ _) ⟨hl2, out, c, vals_each he, hD⟩, rfl, qk _ (I.hok.fresh (Nat.le_succ _))⟩
end
end Tw
/-! Tw: classmethods: their facts as a Bool, C.m(), cls(e), cls(*e). -/
namespace Tw
open PySem PySem.Spec PyProof.Rows L2 He LamX
/-- the def behind the classmethod C.m -/
abbrev cmAt (K : Fg) (x m : Str) : Addr := He5.wf K (ga K x) "classmethod" m
def clsmB (K : Fg) (x m : Str) : Bool := He5.wrapB K (ga K x) "classmethod" "classmethod.__get__" m && PySem.W.fnIn K (cmAt K x m)
theorem clsmB_ok {K : Fg} {x m : Str} (h : clsmB K x m = true) : ClX.CMet K (ga K x) (.type "type") m (ma K (ga K x) m) (cmAt K x m) := by
  obtain ⟨h1, h2⟩ := ba h
  exact He5.cmet_of h1 h2
/-- a def behind a classmethod, as the head's data -/
def dCl (cls : Stmt) (j : Nat) (c m : Str) : DefA := ⟨fun K => cmAt K c m, m, c ++ "." ++ m, defArgs (inClass cls j), defBody (inClass cls j), defScope (inClass cls j), [], []⟩
theorem hfree_by {sc sc' : Scope} (h : (sc.names.all fun y => !decide (y.2 = NameKind.free) || (decide (sc'.names.lookup y.1 = some .cell) || decide (sc'.names.lookup y.1 = some .free))) = true) :
    ∀ y ∈ sc.names, y.2 = .free → sc'.names.lookup y.1 = some .cell ∨ sc'.names.lookup y.1 = some .free := fun y hy e => by
  have z := List.all_eq_true.mp h y hy
  rw [decide_eq_true e, Bool.not_true, Bool.false_or, Bool.or_eq_true] at z
  exact z.imp of_decide_eq_true of_decide_eq_true
section
variable {X : Cx} {CX : CXT} {k i : Nat} {C p g f : Addr} {mc : Value} {sp : Sp} {E : XK} {x m : Str} {o e : Expr} {es : List Expr} {pos apos np : Pos} {ta te : TE} {t : TA}
/-- o.m(), o the class at C -/
theorem pe_cmeth0 {pl : Sem Bool} (he : PE X o ta) (r : ClX.CRead X.K C mc) (c : ClX.CMet X.K C mc m p g) (F : FnR X.prog X.w X.K X.mg X.base CX k g sp) (hr : Room k X.A) (hx : Passes CX X E)
    (ht : eval (.Call (.Attribute o m apos) [] [] pos) X.env = (do
      let ov ← eval o X.env
      standAt apos.atName
      let (f, first) ← holding [ov] (getMethod ov m pl)
      callWith pos f first (backTo pos (starEach [] X.env)) (backToKw pos (keywordEach [] X.env))) := by rfl) :
    PE X (.Call (.Attribute o m apos) [] [] pos) (fun σ H Q => ta σ H fun x H1 => x = .ref C ∧ sp [.ref C] H1 Q E) := by
  refine ⟨fun pins s σ H Q I h => PySem.W.methodCall_KW (pl := pl) (thn (he.run pins s σ H _ I h) fun u s1 ⟨x, H1, I1, rx, ex, q⟩ => ?_) ht⟩
  subst ex
  obtain rfl : u = Value.ref C := rx
  refine ClX.getmethcm_ok I1 r c fun s2 I2 => ?_
  exact PySem.W.callWith_M0 (first := []) ⟨ClX.pin_at I2, I2.kIn⟩ c.fi (ClX.run_cm (us := []) (vs := []) F hr hx I2 .nil q)
/-- x(e, ..), x a local name that holds the class at C -/
theorem pe_makeV (M : Mk X.K C f) (F : FnR X.prog X.w X.K X.mg X.base CX k f sp) (hr : Room (k + 1) X.A) (hx : Passes CX X E) (hN : X.N[i]? = some x) (hv : Vis X.env.scope x) (ha : PA X (e :: es) t)
    (hd : (x == ("__debug__" : Str)) = false := by decide) (hcd : (x == ("__classdict__" : Str)) = false := by decide)
    (he : starEach (e :: es) X.env = (false, eval e X.env) :: starEach es X.env := by rfl) (hpl : (backTo pos (starEach es X.env)).any (·.1) = false := by rfl) :
    PE X (.Call (.Name x np) (e :: es) [] pos) (fun σ H Q => σ[i]? = some (some (.ref C)) ∧ StX.tMakeR C sp E t σ H Q) := by
  refine ⟨fun pins s σ H Q I h => wpAny_Call_Name_kw (thn ((pe_var (pos := np) (i := i) hN hv hd hcd).run pins s σ H (fun v H1 => v = .ref C ∧ H1 = H) I ⟨.ref C, h.1, rfl, rfl⟩) fun u s1 ⟨v, H1, I1, r1, ev, eH⟩ => ?_)⟩
  subst ev eH
  cases r1
  exact PySem.W.callWith_K (h₀ := X.base) I1.ok.mod.kin M.kp (thn (ha.run pos pins s1 σ _ _ I1 h.2) fun us s2 ⟨vs, H2, I2, r, q⟩ => ⟨I2.kIn, StX.run_makeR M F hr hx I2 r q⟩) he hpl
/-- x(*y), x a local name that holds the class at C -/
theorem pe_makeVS (M : Mk X.K C f) (F : FnR X.prog X.w X.K X.mg X.base CX k f sp) (hr : Room (k + 1) X.A) (hx : Passes CX X E) (hN : X.N[i]? = some x) (hv : Vis X.env.scope x) (he : PE X e te)
    (hd : (x == ("__debug__" : Str)) = false := by decide) (hcd : (x == ("__classdict__" : Str)) = false := by decide)
    (hst : starEach [.Starred e apos] X.env = [(true, eval e X.env)] := by rfl) :
    PE X (.Call (.Name x np) [.Starred e apos] [] pos) (fun σ H Q => σ[i]? = some (some (.ref C)) ∧ te σ H fun y H1 => ∃ a xs, y = V.ref a ∧ (SqT X.K H1 a xs ∨ SqL X.K H1 a xs) ∧ ∀ z dx, H1 z = none → H1 dx = none → dx ≠ z →
      sp (V.ref z :: xs) (upd (upd H1 dx (.own z)) z (.ins C dx [])) (fun v H2 => v = .non ∧ Q (.ref z) H2) E) := by
  refine ⟨fun pins s σ H Q I h => wpAny_Call_Name_kw (thn ((pe_var (pos := np) (i := i) hN hv hd hcd).run pins s σ H (fun v H1 => v = .ref C ∧ H1 = H) I ⟨.ref C, h.1, rfl, rfl⟩) fun u s1 ⟨v, H1, I1, r1, ev, eH⟩ => ?_)⟩
  subst ev eH
  cases r1
  refine PySem.W.callWith_S (h₀ := X.base) I1.ok.mod.kin M.kp (thn (he.run pins s1 σ _ _ I1 h.2) fun v s2 ⟨y, H2, I2, ry, a, xs, ey, hxs, q⟩ => ?_) hst
  subst ey
  obtain rfl : v = Value.ref a := ry
  exact StX.star_any I2 hxs fun us s3 I3 rv => ⟨I3.kIn, StX.run_makeR M F hr hx I3 rv q⟩
/-- x(*y), x a global class -/
theorem pe_makeGS (M : Mk X.K C f) (F : FnR X.prog X.w X.K X.mg X.base CX k f sp) (hr : Room (k + 1) X.A) (hx : Passes CX X E) (hg : Gl X x) (hm : X.mg x = some (.ref C)) (he : PE X e te) (hd : (x == ("__debug__" : Str)) = false := by decide)
    (hst : starEach [.Starred e apos] X.env = [(true, eval e X.env)] := by rfl) :
    PE X (.Call (.Name x np) [.Starred e apos] [] pos) (fun σ H Q => te σ H fun y H1 => ∃ a xs, y = V.ref a ∧ (SqT X.K H1 a xs ∨ SqL X.K H1 a xs) ∧ ∀ z dx, H1 z = none → H1 dx = none → dx ≠ z →
      sp (V.ref z :: xs) (upd (upd H1 dx (.own z)) z (.ins C dx [])) (fun v H2 => v = .non ∧ Q (.ref z) H2) E) := by
  refine ⟨fun pins s σ H Q I h => wpAny_Call_Name_kw (ld_glob I hg hm ?_ hd)⟩
  refine PySem.W.callWith_S (h₀ := X.base) I.ok.mod.kin M.kp (thn (he.run pins s σ _ _ I h) fun v s2 ⟨y, H2, I2, ry, a, xs, ey, hxs, q⟩ => ?_) hst
  subst ey
  obtain rfl : v = Value.ref a := ry
  exact StX.star_any I2 hxs fun us s3 I3 rv => ⟨I3.kIn, StX.run_makeR M F hr hx I3 rv q⟩
end
end Tw
/-! Tw: what stands while lambdas are made beside a pen; slices as take and drop. -/
namespace Tw
open PySem PySem.Spec PyProof.Rows L2 He LamX
/-- all but the tables and what stands at p stay -/
def ButN (p : Addr) (H H' : Hp) : Prop := ∀ b o, H b = some o → b ≠ p → (∀ ps, o ≠ .tbl ps) → H' b = some o
theorem ButN.refl (p : Addr) (H : Hp) : ButN p H H := fun _ _ e _ _ => e
theorem ButN.of {p : Addr} {H H' : Hp} (e : ExtN H H') : ButN p H H' := fun b o h _ n => e b o h n
theorem ButN.but {p : Addr} {H H' : Hp} (e : But p H H') : ButN p H H' := fun b o h n _ => e b o h n
theorem ButN.trans {p : Addr} {H H1 H2 : Hp} (a : ButN p H H1) (b : ButN p H1 H2) : ButN p H H2 := fun c o e h n => b c o (a c o e h n) h n
theorem tabs_but {T : List (Addr × Str)} {p : Addr} {H H' : Hp} (h : Tabs T H) (e : But p H H') (hp : ∀ ps, H p ≠ some (.tbl ps)) (hc : ∀ c q, H p ≠ some (CodeO c q)) : Tabs T H' := fun q hq => by
  obtain ⟨ps, h1, h2, h3⟩ := h q hq
  have n1 : q.1 ≠ p := fun z => hp ps (z ▸ h1)
  refine ⟨ps, e _ _ h1 n1, h2, fun pos cv hcv => ?_⟩
  obtain ⟨c, e1, e2⟩ := h3 pos cv hcv
  have n2 : c ≠ p := fun z => hc c q.2 (by rw [z] at e2 ⊢; exact e2)
  exact ⟨c, e1, e _ _ e2 n2⟩
theorem penN {H H' : Hp} {p l : Addr} {c : Nat} (P : PenL H p l c) (e : ExtN H H') : PenL H' p l c := by
  obtain ⟨ns, i, g, e1, e2, r⟩ := P
  exact ⟨ns, i, g, e _ _ e1 (fun _ z => nomatch z), e _ _ e2 (fun _ z => nomatch z), r⟩
theorem tabs_pen {T : List (Addr × Str)} {p l : Addr} {c : Nat} {H H' : Hp} (h : Tabs T H) (e : But p H H') (P : PenL H p l c) : Tabs T H' := by
  obtain ⟨ns, i, g, e1, _⟩ := P
  exact tabs_but h e (fun ps z => by rw [e1] at z; cases z) (fun c q z => by rw [e1] at z; exact nomatch z)
/-- the tables T, the pen at p; all else as it was at H0 -/
structure Lx (T : List (Addr × Str)) (H0 H : Hp) (p l : Addr) (c : Nat) : Prop where
  t : Tabs T H
  P : PenL H p l c
  b : ButN p H0 H
theorem Lx.same {T : List (Addr × Str)} {H0 H H' : Hp} {p l : Addr} {c : Nat} (S : Lx T H0 H p l c) (e : Same H H') : Lx T H0 H' p l c := ⟨S.t.ext e, S.P.same e, S.b.trans (ButN.but (But.of e))⟩
theorem Lx.ext {T : List (Addr × Str)} {H0 H H' : Hp} {p l : Addr} {c : Nat} (S : Lx T H0 H p l c) (e : ExtN H H') (t : Tabs T H') : Lx T H0 H' p l c := ⟨t, penN S.P e, S.b.trans (ButN.of e)⟩
theorem Lx.pen {T : List (Addr × Str)} {H0 H H' : Hp} {p l : Addr} {c c' : Nat} (S : Lx T H0 H p l c) (e : But p H H') (P : PenL H' p l c') : Lx T H0 H' p l c' := ⟨tabs_pen S.t e S.P, P, S.b.trans (ButN.but e)⟩
theorem Lx.mono {T : List (Addr × Str)} {H0 H : Hp} {p l : Addr} {c c' : Nat} (S : Lx T H0 H p l c) (h : c ≤ c') : Lx T H0 H p l c' := ⟨S.t, S.P.mono h, S.b⟩
theorem Lx.from {T : List (Addr × Str)} {H0 H1 H : Hp} {p l : Addr} {c : Nat} (b : ButN p H0 H1) (S : Lx T H1 H p l c) : Lx T H0 H p l c := ⟨S.t, S.P, b.trans S.b⟩
/-- a heap with one object changed that is no table and not the pen -/
theorem Lx.upd {T : List (Addr × Str)} {H0 H : Hp} {p l q : Addr} {c : Nat} {o : HO} {xs : List V} (S : Lx T H0 H p l c) (h0 : H0 q = none) (hq : H q = some (.lst xs)) (n1 : q ≠ p) (n2 : q ≠ l) : Lx T H0 (L2.upd H q o) p l c := by
  refine ⟨tabs_but (p := q) S.t But.upd (fun ps z => by rw [hq] at z; cases z) (fun c q' z => by rw [hq] at z; exact nomatch z), S.P.upd n1 n2, fun b u e hb ht => ?_⟩
  rw [upd_ne (ne_of_none e h0)]
  exact S.b b u e hb ht
theorem cutTake (xs : List V) (n : Nat) : cutV xs none (some ((n : Nat) : Int)) = xs.take n := by
  unfold cutV
  rw [HT.sIx_none, HT.sIx_nat, List.drop_zero, Nat.sub_zero]
  rcases Nat.le_total n xs.length with h | h
  · rw [Nat.min_eq_left h]
  · rw [Nat.min_eq_right h, List.take_of_length_le h, List.take_of_length_le (Nat.le_refl _)]
theorem cutDrop (xs : List V) (n : Nat) : cutV xs (some ((n : Nat) : Int)) none = xs.drop n := by
  unfold cutV
  rw [HT.sIx_none, HT.sIx_nat, List.take_of_length_le (by rw [List.length_drop]; exact Nat.le_refl _)]
  rcases Nat.le_total n xs.length with h | h
  · rw [Nat.min_eq_left h]
  · rw [Nat.min_eq_right h, List.drop_of_length_le h, List.drop_of_length_le (Nat.le_refl _)]
end Tw
/-! Tw: set comprehensions with one clause, whatever the set holds; those of ints. -/
namespace Tw
open PySem PySem.Spec PyProof.Rows L2 He
/-- an empty set is laid as o0 tells -/
def NewSet (P : Program) (w : World) (o0 : Addr → HO) : Prop := ∀ (H : Hp) (h : Heap), ObjOk P w (upd H h.objs.size (o0 h.objs.size)) (h.push { cls := .type "set", dict := none, data := .set #[] 0 (.fresh 0 0 (!w.params.followText "set-order")) }) h.objs.size (o0 h.objs.size)
/-- a member is put in as ad tells -/
def AddSet (P : Program) (w : World) (ad : V → Addr → Hp → (Hp → Prop) → Prop) : Prop := ∀ (Z : Cx) (_ : Z.prog = P) (_ : Z.w = w) {pins : List (Addr × Obj)} {σ : L2.St} {H : Hp} {s : Shared} {D : Addr} {y : V} {u : Value} {Nx : Hp → Prop} {Q E : Value → Shared → Prop},
  (∀ e s, Z.xe e s → E e s) → Inv Z pins σ H s → RelV y u → ad y D H Nx → (∀ H' s', Inv Z pins σ H' s' → Nx H' → Q .none s') → wpAny (model Z.prog Z.w) Z.A (call (.builtin "set.add") [.ref D, u]) Q E s
/-- {elt for target in iter if ..}: D the new set -/
def tSetC (o0 : Addr → HO) (ad : V → Addr → Hp → (Hp → Prop) → Prop) (wi : TI) (g : TG) (tt : TT) (te : TE) (vs : List Nat) : TE := fun σ H Q => wi σ H fun J H1 => ∀ D, H1 D = none →
  ∃ W : Nat → Nat → Hp → Prop, (∃ m, W 0 m (upd H1 D (o0 D))) ∧ ∀ i m H, W i m H → (J.stop i H ∧ Q (.ref D) H) ∨ (J.go i H ∧ ∃ Nx : Hp → Prop, (∀ H', Nx H' → ∃ m', m' < m ∧ W (i + 1) m' H') ∧
    ∀ x H', J.yld i H x H' → g x (wipe σ vs) H' fun σ2 H2 => wipe σ2 vs = wipe σ vs ∧ tt σ2 H2 fun b H3 => if b = true then te σ2 H3 fun y H4 => ad y D H4 Nx else Nx H3)
section
variable {X : Cx}
theorem setc_core {o0 : Addr → HO} {ad : V → Addr → Hp → (Hp → Prop) → Prop} (hnew : NewSet X.prog X.w o0) (hadd : AddSet X.prog X.w ad) {pins : List (Addr × Obj)} {s : Shared} {σ : L2.St} {H : Hp} {Q : VK} {elt tg iter : Expr} {ifs : List Expr} {scope : Scope} {own : List (PySem.Str × Nat)} {pos pos' : Pos} {wi : TI} {g : TG} {tt : TT} {te : TE} {use : Option (Value → Sem Unit)} {Qf : Value → Shared → Prop}
    (hc : X.calm = true) (hN : X.N.Nodup) (I : Inv X pins σ H s) (hi : PI X tg iter wi) (ok : BlkOk X.N X.env.scope scope own)
    (hg : ∀ (s : Shared) (H : Hp) (C : Addr) (cl : List (PySem.Str × Addr)) (fp : List Addr), PG (X.blk s H scope (compEnvC scope cl C X.env) fp) tg g) (ht : ∀ (s : Shared) (H : Hp) (C : Addr) (cl : List (PySem.Str × Addr)) (fp : List Addr), PTs (X.blk s H scope (compEnvC scope cl C X.env) fp) ifs tt)
    (he : ∀ (s : Shared) (H : Hp) (C : Addr) (cl : List (PySem.Str × Addr)) (fp : List Addr), PE (X.blk s H scope (compEnvC scope cl C X.env) fp) elt te) (hs : ∀ x, foldedSetIterable iter X.env x = pure x)
    (h : tSetC o0 ad wi g tt te (own.map (·.2)) σ H Q)
    (hRR : ∀ D C s' m H', Inv X pins σ H' s' → Q (.ref D) H' → s'.heap.Ns C m → FpOk X pins H' C → compPost (model X.prog X.w) X.A X.xe use Qf (.ref D) C (.ok .next) s') :
    wpAny (model X.prog X.w) X.A (comprehension (.SetComp elt [⟨tg, iter, ifs, 0⟩] scope pos) scope X.env pos' (newSet (.type "set")) false (eval iter X.env) use) Qf X.xe s := by
  have free1 : ∀ y ∈ scope.names, y.2 = .free → ∃ c, X.env.cells.lookup y.1 = some c := fun y hy e => (ok.free y hy e).elim (fun k => I.ok.has _ (.inl k)) fun k => I.ok.has _ (.inr k)
  refine wpAny_comprehension_free (use := use) rfl hs (closure_ok free1) ok.kind (fun y hy e => by rw [ok.uniq y hy, e])
    (thn (hi.run pins s σ H _ I h) fun xv u1 hx => thn hx fun itv u2 h2 => ?_)
  obtain ⟨it, fp, tn, J, G2, e, J2, T, q2, fa2, q⟩ := h2
  subst e
  refine PpSet.newSet_ok (newEnv_comp ?_)
  generalize eD : u2.heap.objs.size = D
  have nD : G2 D = none := J2.hok.fresh (Nat.le_of_eq eD)
  obtain ⟨W, ⟨m0, w00⟩, step1⟩ := q D nD
  -- the new list
  generalize es3 : ({ u2 with heap := u2.heap.push { cls := .type "set", dict := none, data := .set #[] 0 (.fresh 0 0 (!X.w.params.followText "set-order")) } } : Shared) = u3
  have J3 : Inv X pins σ (upd G2 D (o0 D)) u3 := by
    rw [← es3]
    refine J2.laid (t' := u2.toks) (fun b o e => Heap.get?_push_of_some _ e) (Nat.le_of_eq eD) ?_
    rw [← eD]
    exact hnew G2 u2.heap
  have e3 : u3.heap = u2.heap.push { cls := .type "set", dict := none, data := .set #[] 0 (.fresh 0 0 (!X.w.params.followText "set-order")) } := by rw [← es3]
  have szl : ∀ b ∈ fp, b < u2.heap.objs.size := fun b hb => by
    obtain ⟨o, e, _⟩ := T.obj _ _ q2 b hb
    exact Heap.lt_size e
  have fa3 : ∀ b ∈ fp, FpOk X pins (upd G2 D (o0 D)) b ∧ b < u3.heap.objs.size := fun b hb => by
    have hlt := szl b hb
    refine ⟨⟨?_, (fa2 b hb).2⟩, by rw [e3, Heap.size_push]; exact Nat.lt_succ_of_lt hlt⟩
    rw [upd_ne (by rw [← eD]; exact Nat.ne_of_lt hlt)]
    exact (fa2 b hb).1
  have q3 : tn 0 u3.heap := T.keep _ _ _ q2 fun b _ o e => by rw [e3]; exact Heap.get?_push_of_some _ e
  have J4 := block_start J3 ok hN fa3
  have tg1 := hg u3 (upd G2 D (o0 D)) u3.heap.objs.size (cellsFrom (u3.heap.objs.size + 1) scope.names (cloFrom X.env.cells scope.names [])) fp
  have tt1 := ht u3 (upd G2 D (o0 D)) u3.heap.objs.size (cellsFrom (u3.heap.objs.size + 1) scope.names (cloFrom X.env.cells scope.names [])) fp
  have te1 := he u3 (upd G2 D (o0 D)) u3.heap.objs.size (cellsFrom (u3.heap.objs.size + 1) scope.names (cloFrom X.env.cells scope.names [])) fp
  show codeAny _ _ (.compStart (.SetComp elt [⟨tg, iter, ifs, 0⟩] scope pos) 0 (.ref it) (.ref D) (compEnvC scope (cellsFrom (u3.heap.objs.size + 1) scope.names (cloFrom X.env.cells scope.names [])) u3.heap.objs.size X.env)) (compPost (model X.prog X.w) X.A X.xe use Qf (.ref D) u3.heap.objs.size) { u3 with heap := pushCells (u3.heap.push { cls := .type "dict", data := .dict #[] }) scope.names }
  have zfp : ∀ b ∈ fp, (upd G2 D (o0 D)) b = none := fun b hb => (fa3 b hb).1.1
  generalize ece : compEnvC scope (cellsFrom (u3.heap.objs.size + 1) scope.names (cloFrom X.env.cells scope.names [])) u3.heap.objs.size X.env = ce at J4 tg1 tt1 te1 ⊢
  have lc : ce.locals = u3.heap.objs.size := by subst ece; rfl
  generalize eG3 : upd G2 D (o0 D) = G3 at J3 J4 tg1 tt1 te1 w00 zfp fa3
  generalize es4 : ({ u3 with heap := pushCells (u3.heap.push { cls := .type "dict", data := .dict #[] }) scope.names } : Shared) = u4 at J4 ⊢
  have q4 : tn 0 u4.heap := T.keep _ _ _ q3 fun b _ o e => by rw [← es4]; exact pushCells_keeps _ _ _ _ (Heap.get?_push_of_some _ e)
  have fpo : ∀ {σ' : L2.St} {H' : Hp} {s' : Shared}, Inv (X.blk u3 G3 scope ce fp) [] σ' H' s' → (∀ b ∈ fp, H' b = none) → ∀ b ∈ fp, FpOk (X.blk u3 G3 scope ce fp) [] H' b := fun {σ' H' s'} I' hn b hb =>
    ⟨hn b hb, (I'.ok.exf b hb).1, I'.ok.exfs b hb, .inl hb, fun x c e => (I'.ok.exf b hb).2 x c e, fun p hp => absurd (show p ∈ ([] : List (Addr × Obj)) ++ [] from hp) (by simp)⟩
  have go1 : codeAny (model X.prog X.w) X.A (.compLoop (.SetComp elt [⟨tg, iter, ifs, 0⟩] scope pos) 0 (.ref it) (.ref D) ce) (compPost (model X.prog X.w) X.A X.xe use Qf (.ref D) u3.heap.objs.size) u4 := by
    refine PpSet.compLoopS_any (fun n s' => ∃ i H', Inv (X.blk u3 G3 scope ce fp) [] (wipe σ (own.map (·.2))) H' s' ∧ tn i s'.heap ∧ (∀ b ∈ fp, H' b = none) ∧ W i n H') ?_ m0 ⟨0, G3, J4, q4, zfp, w00⟩
    rintro n u5 ⟨i, G5, J5, q5, n5, w5⟩
    rcases step1 i n G5 w5 with ⟨stop, qq⟩ | ⟨go, Nx, hNx, step⟩
    · have dn := T.done (X.blk u3 G3 scope ce fp) rfl rfl rfl hc i [] u5 _ G5 (fun _ _ => False) J5 (fpo J5 n5) q5 stop
      refine thnF dn fun r u6 ⟨hr, J6⟩ => ?_
      subst hr
      -- back in the def's context
      have J7 : Inv X pins σ G5 u6 := J3.call' (ch := fp) J6.os J6.base J6.hok J6.bare fun b hb => ⟨(fa3 b hb).1.2.2.2.1, (fa3 b hb).1.2.1, (fa3 b hb).1.2.2.2.2.1, (fa3 b hb).1.2.2.2.2.2⟩
      have nC : G5 u3.heap.objs.size = none := by
        have z : G5 ce.locals = none := J6.free
        rw [lc] at z
        exact z
      obtain ⟨m, hn, _⟩ := J6.loc
      have hn : u6.heap.Ns ce.locals m := hn
      rw [lc] at hn
      exact hRR D u3.heap.objs.size u6 m G5 J7 qq hn (J3.fpOk (Nat.le_refl _) nC)
    · have it1 := T.item (X.blk u3 G3 scope ce fp) rfl rfl rfl hc i [] u5 _ G5 (fun _ _ => False) J5 (fpo J5 n5) q5 go
      refine thnF it1 fun r u6 ⟨u, hr, h6⟩ => ?_
      subst hr
      refine thnF h6 fun _ u7 ⟨x, G7, J7, r7, y7, q7, n7⟩ => ?_
      have J7' := J7.pinned (fpo J7 n7) (T.obj _ _ q7)
      refine thnF (tg1.run _ u7 _ G7 x u _ J7' r7 (step x G7 y7)) fun _ u8 ⟨σ8, G8, J8, hw8, q8⟩ => ?_
      refine thnF (tt1.run _ u8 σ8 G8 _ J8 q8) fun b u9 ⟨G9, J9, q9⟩ => ?_
      -- the turn's end
      have endt : ∀ {s' : Shared} {H' : Hp}, Inv (X.blk u3 G3 scope ce fp) ([] ++ pinsAt fp u7.heap) σ8 H' s' → Nx H' → ∃ m, m < n ∧ ∃ i H', Inv (X.blk u3 G3 scope ce fp) [] (wipe σ (own.map (·.2))) H' s' ∧ tn i s'.heap ∧ (∀ b ∈ fp, H' b = none) ∧ W i m H' := fun {s' H'} I' nx => by
        obtain ⟨m', hm, w'⟩ := hNx H' nx
        have pin' : ∀ b ∈ fp, ∀ o, u7.heap.get? b = some o → s'.heap.get? b = some o ∧ H' b = none := fun b hb o e =>
          let z := I'.pin (b, o) (List.mem_append_right _ (List.mem_append_right _ (mem_pinsAt hb e)))
          ⟨z.1, z.2.1⟩
        have hl : (wipe σ (own.map (·.2))).length = σ8.length := by rw [← hw8, wipe_length]
        refine ⟨m', hm, i + 1, H', (I'.unpinned (pins := [])).weak hl (fun j v e => ?_), T.keep _ _ _ q7 fun b hb o e => (pin' b hb o e).1, fun b hb => ?_, w'⟩
        · rw [← hw8] at e
          exact (wipe_some e).1
        · obtain ⟨o, e, _⟩ := T.obj _ _ q7 b hb
          exact (pin' b hb o e).2
      cases b with
      | false =>
        simp only [Bool.false_eq_true, if_false] at q9 ⊢
        exact endt J9 q9
      | true =>
        simp only [if_true] at q9 ⊢
        refine thnF (te1.run _ u9 σ8 G9 _ J9 q9) fun z u10 ⟨yv, G10, J10, r10, nx⟩ => ?_
        exact hadd (X.blk u3 G3 scope ce fp) rfl rfl (fun _ _ z => False.elim z) J10 r10 nx fun H' u11 J11 nx' => endt J11 nx'
  exact PpSet.codeAny_compStart_set go1 (T.self X.A 0 _ _ _ q4 go1)
/-- as a value -/
theorem pe_setc {o0 : Addr → HO} {ad : V → Addr → Hp → (Hp → Prop) → Prop} {elt tg iter : Expr} {ifs : List Expr} {scope : Scope} {own : List (PySem.Str × Nat)} {pos : Pos} {wi : TI} {g : TG} {tt : TT} {te : TE} (hnew : NewSet X.prog X.w o0) (hadd : AddSet X.prog X.w ad) (hc : X.calm = true) (hN : X.N.Nodup) (hi : PI X tg iter wi) (ok : BlkOk X.N X.env.scope scope own)
    (hg : ∀ (s : Shared) (H : Hp) (C : Addr) (cl : List (PySem.Str × Addr)) (fp : List Addr), PG (X.blk s H scope (compEnvC scope cl C X.env) fp) tg g)
    (ht : ∀ (s : Shared) (H : Hp) (C : Addr) (cl : List (PySem.Str × Addr)) (fp : List Addr), PTs (X.blk s H scope (compEnvC scope cl C X.env) fp) ifs tt)
    (he : ∀ (s : Shared) (H : Hp) (C : Addr) (cl : List (PySem.Str × Addr)) (fp : List Addr), PE (X.blk s H scope (compEnvC scope cl C X.env) fp) elt te)
    (hs : ∀ x, foldedSetIterable iter X.env x = pure x := by intro _; rfl) : PE X (.SetComp elt [⟨tg, iter, ifs, 0⟩] scope pos) (tSetC o0 ad wi g tt te (own.map (·.2))) := by
  refine ⟨fun pins s σ H Q I h => ?_⟩
  rw [PpSet.eval_SetComp]
  refine setc_core hnew hadd hc hN I hi ok hg ht he hs h fun D C s' m H' I' q hn f => ⟨m, hn, fun h'' sb => ?_⟩
  obtain ⟨z0, z1, z2, z3, z4, z5⟩ := f
  exact ⟨.ref D, H', I'.turned (t' := s'.toks) (fun b o hb e => (sb.2 b hb).trans e) z0 z1 z3 z4 z5, rfl, q⟩
/-- over a sequence that the block leaves as it is -/
theorem setc_tup {o0 : Addr → HO} {ad : V → Addr → Hp → (Hp → Prop) → Prop} {K : PySem.W.Frag} {a : Addr} {xs : List V} {g : TG} {tt : TT} {te : TE} {vs : List Nat} {σ : L2.St} {H1 : Hp} {D : Addr} {Qd : Hp → Prop} (Pv : Nat → Hp → Prop) (h0 : Pv 0 (upd H1 D (o0 D))) (hl : ∀ i H, i ≤ xs.length → Pv i H → SqT K H a xs)
    (hs : ∀ i x H, xs[i]? = some x → Pv i H → g x (wipe σ vs) H fun σ2 H2 => wipe σ2 vs = wipe σ vs ∧ tt σ2 H2 fun b H3 => if b = true then te σ2 H3 fun y H4 => ad y D H4 (Pv (i + 1)) else Pv (i + 1) H3) (hd : ∀ H, Pv xs.length H → Qd H) :
    ∃ W : Nat → Nat → Hp → Prop, (∃ m, W 0 m (upd H1 D (o0 D))) ∧ ∀ i m H, W i m H → ((Itt K a).stop i H ∧ Qd H) ∨ ((Itt K a).go i H ∧ ∃ Nx : Hp → Prop, (∀ H', Nx H' → ∃ m', m' < m ∧ W (i + 1) m' H') ∧
      ∀ x H', (Itt K a).yld i H x H' → g x (wipe σ vs) H' fun σ2 H2 => wipe σ2 vs = wipe σ vs ∧ tt σ2 H2 fun b H3 => if b = true then te σ2 H3 fun y H4 => ad y D H4 Nx else Nx H3) := by
  refine ⟨fun i m H => m = xs.length - i ∧ i ≤ xs.length ∧ Pv i H, ⟨xs.length, by omega, Nat.zero_le _, h0⟩, fun i m H ⟨em, hi, p⟩ => ?_⟩
  subst em
  have q := hl i H hi p
  rcases Nat.lt_or_eq_of_le hi with hlt | e
  · refine .inr ⟨⟨xs, xs[i], q, List.getElem?_eq_getElem hlt⟩, Pv (i + 1), fun H' p' => ⟨xs.length - (i + 1), by omega, rfl, hlt, p'⟩, fun x H' y => ?_⟩
    obtain ⟨e, y⟩ := y
    subst e
    exact hs i x _ (y xs q) p
  · subst e
    exact .inl ⟨⟨xs, q, Nat.le_refl _⟩, hd H p⟩
end
/-! ### sets of ints -/
theorem newInts {P : Program} {w : World} : NewSet P w (fun D => SetO w D (fun _ => false) 0) := fun H h => setO_new (setR_fresh w)
def adInt (w : World) : V → Addr → Hp → (Hp → Prop) → Prop := fun y D H Nx => ∃ (k : Int) (S : Int → Bool) (n : Nat), y = .int k ∧ H D = some (SetO w D S n) ∧ n + 1 < scanBound ∧ Nx (upd H D (SetO w D (fun j => S j || decide (j = k)) (if S k = true then n else n + 1)))
theorem addInts {P : Program} {w : World} : AddSet P w (adInt w) := by
  intro Z e1 e2 pins σ H s D y u Nx Q E hE I r h k
  subst e1 e2
  obtain ⟨i, S, n, rfl, hD, hn, nx⟩ := h
  refine wpAny_mono (mt_sadd (X := Z) pins s σ H (.ref D) [.int i] (.ref D) [u] (fun v H' => v = .non ∧ Nx H') I rfl (.cons r .nil) ⟨D, i, S, n, rfl, rfl, hD, hn, rfl, nx⟩) (fun v s' z => ?_) hE
  obtain ⟨v', H', I', rv, rfl, nx'⟩ := z
  cases (show v = Value.none from rv)
  exact k H' s' I' nx'
end Tw
namespace K09
open PySem PySem.Spec PyProof.Rows L2 He Tw
def topS (i : Nat) : Stmt := PySem.Challenge.pw_twoheads_k09_rows_settled_and_tried.main.body.getD i (.Pass ⟨0, 0, 0, 0⟩)
def dM (c : Str) (i j : Nat) (m : Str) (dvs : List Dv) : DefA := ⟨fun K => ma K (ga K c) m, m, c ++ "." ++ m, defArgs (inClass (topS i) j), defBody (inClass (topS i) j), defScope (inClass (topS i) j), dvs, []⟩
def dF (x : Str) (i : Nat) : DefA := ⟨fun K => ga K x, x, x, defArgs (topS i), defBody (topS i), defScope (topS i), [], []⟩
/-- the errors with one field -/
def errs : List (Str × Nat × Str) := [("BadItem", 5, "part"), ("BadPlace", 6, "at"), ("Disordered", 7, "at"), ("TooMany", 8, "most")]
def clss : List Str := ["HeadsError", "BadInput", "Refused", "BadItem", "BadPlace", "Disordered", "TooMany", "Item", "Row", "Trial"]
def fnames : List Str := ["is_lettered", "is_number", "is_rank", "as_items", "need_row", "by_rank", "taken", "taken_of_rank", "joined", "_law_pen", "_law_draw", "_law_pick", "_law_pairs", "_law_values", "_law_told", "_law_heard", "_law_answer", "_law_settled", "_law_settle_right", "_law_late_right", "_law_changes", "_law_lost", "_law_lost_right", "_law_tried", "_law_outer", "_law_added", "_law_try_right", "law"]
def blts : List Str := ["list", "int", "len", "abs", "isinstance", "range", "str", "bool", "all", "enumerate", "tuple", "sorted", "iter", "KeyError"]
def kinds : List String := ["NoneType", "bool", "int", "str", "list", "tuple", "dict"]
/-- where the empty tuple stands that Row.__init__ has as its default -/
def nilAt (K : Fg) : Addr := match K.lookup (ma K (ga K "Row") "__init__") with
  | some ⟨_, _, .func fd, _⟩ => (match fd.defaults with
    | .ref t => (match K.lookup t with
      | some ⟨_, _, .seq its _, _⟩ => (match its.toList with
        | .ref e :: _ => e
        | _ => 0)
      | _ => 0)
    | _ => 0)
  | _ => 0
def nilB (K : Fg) : Bool := match K.lookup (nilAt K) with
  | some ⟨.type c, _, .seq its _, _⟩ => decide (c = "tuple") && its.toList.isEmpty
  | _ => false
def mostB (K : Fg) : Bool := match PySem.W.findIn K (.ref (ga K "Row")) "MOST" with
  | some (some (.int i t)) => decide (i = 200) && eqO (PySem.W.specialIn K (.int i t) "__get__") (some none)
  | _ => false
theorem nilB_ok {K : Fg} (h : nilB K = true) (H : Hp) : SqT K H (nilAt K) [] := by
  unfold nilB at h
  cases q : K.lookup (nilAt K) with
  | none =>
    rw [q] at h
    cases h
  | some o =>
    obtain ⟨oc, od, dt, sl⟩ := o
    rw [q] at h
    cases oc with
    | type c =>
      cases dt with
      | seq its n =>
        obtain ⟨h1, h2⟩ := ba h
        have e1 := of_decide_eq_true h1
        subst e1
        have e2 : its.toList = [] := List.isEmpty_iff.mp h2
        refine .inr ⟨_, its, n, q, rfl, rfl, ?_, ?_⟩
        · have e3 : its.size = 0 := by
            rw [← Array.length_toList, e2]
            rfl
          rw [e3]
          exact Nat.zero_le _
        · rw [e2]
          exact .nil
      | _ => cases h
    | _ => cases h
theorem mostB_ok {K : Fg} (h : mostB K = true) : ∃ u, Con K (ga K "Row") "MOST" (.int 200) u := by
  unfold mostB at h
  cases q : PySem.W.findIn K (.ref (ga K "Row")) "MOST" with
  | none =>
    rw [q] at h
    cases h
  | some o =>
    rw [q] at h
    cases o with
    | none => cases h
    | some v =>
      cases v with
      | int i t =>
        obtain ⟨h1, h2⟩ := ba h
        have e := of_decide_eq_true h1
        subst e
        exact ⟨_, q, ⟨_, rfl⟩, eqO_ok h2, by decide +kernel⟩
      | _ => cases h
def fn : List DefA := errs.map (fun e => dM e.1 e.2.1 0 "__init__" []) ++ [dM "Item" 17 0 "__init__" [.str ""], dM "Item" 17 3 "before" [], dM "Row" 27 1 "__init__" [.adr nilAt], dM "Row" 27 4 "__iter__" [], dM "Row" 27 10 "listed" [],
  dM "Row" 27 17 "__iadd__" [], dM "Row" 27 20 "__ior__" [], dM "Row" 27 23 "__iand__" [], dM "Row" 27 26 "__isub__" [], dM "Row" 27 29 "__ixor__" [],
  dF "is_lettered" 12, dF "is_number" 15, dF "is_rank" 16, dF "as_items" 19, dF "need_row" 20, dF "by_rank" 21, dF "taken" 22, dF "taken_of_rank" 23, dF "joined" 28,
  dF "_law_pen" 31, dF "_law_draw" 32, dF "_law_pick" 33, dF "_law_pairs" 34, dF "_law_values" 35, dF "_law_told" 36, dF "_law_heard" 37, dF "_law_answer" 38, dF "_law_settled" 39, dF "_law_settle_right" 40, dF "_law_late_right" 41, dF "_law_changes" 42, dF "_law_lost" 43, dF "_law_lost_right" 44, dF "_law_tried" 45, dF "_law_outer" 46, dF "_law_added" 47, dF "_law_try_right" 48, dF "law" 49,
  dM "Row" 27 3 "__len__" [], dM "Row" 27 5 "__getitem__" [], dM "Row" 27 6 "stretch" [], dM "Row" 27 7 "__setitem__" [], dM "Row" 27 32 "settle" [], dM "Row" 27 33 "trial" [], dM "Row" 27 34 "attempt" [], dM "Trial" 25 0 "__init__" [], dM "Trial" 25 1 "__enter__" [], dM "Trial" 25 2 "__exit__" []]
def letters : Str := "abcdefghijklmnopqrstuvwxyz"
def beyond : Int := 10 ^ 30
/-- where lambdas are made -/
def tabs : List (Fg → Addr) := [fun K => ga K "_law_settle_right", fun K => ga K "_law_late_right", fun K => ga K "_law_lost_right", fun K => ga K "_law_tried", fun K => ga K "_law_try_right", fun K => ma K (ga K "Row") "settle"]
def fs : Fz := [fun K => clss.all fun x => (Fa.glo x).ok K, fun K => fnames.all fun x => (Fa.glo x).ok K, fun K => blts.all fun x => (Fa.free x).ok K, fun K => (Fa.int "BEYOND" beyond).ok K, fun K => (Fa.int "LONGEST" 8).ok K, fun K => (Fa.str "LETTERS" letters).ok K,
  fun K => errs.all fun e => (Fy.xc e.1).ok K, fun K => Fy.xo.ok K, fun K => errs.all fun e => (Fy.ini e.1).ok K, fun K => errs.all fun e => (Fy.names e.1 [e.2.2]).ok K, fun K => errs.all fun e => errs.all fun d => (Fy.kit e.1 d.1 (decide (e.1 = d.1))).ok K,
  fun K => errs.all fun e => decide (PySem.W.exmOne K (.ref (ga K e.1)) (.ref (ga K "HeadsError")) = some true),
  fun K => kinds.all fun t => decide (PySem.W.kitOne K (.type t) (.ref (ga K "Item")) = some false) && errs.all fun e => decide (PySem.W.kitOne K (.type t) (.ref (ga K e.1)) = some false),
  fun K => (Fy.kit "Item" "Item" true).ok K, fun K => (Fy.kit "Row" "Row" true).ok K, fun K => PySem.W.notFirst K (ga K "Row") (.ref (ga K "Row")),
  fun K => (Fa.cls "Item").ok K, fun K => (Fa.mkr "Item").ok K, fun K => (["rank", "name"] : List Str).all fun f => (Fa.noat "Item" f).ok K, fun K => (Fa.meth "Item" "before").ok K,
  fun K => (Fa.cls "Row").ok K, fun K => (Fa.mkr "Row").ok K, fun K => (Fa.noat "Row" "state").ok K, fun K => (["listed", "__iter__"] : List Str).all fun m => (Fa.meth "Row" m).ok K,
  fun K => (["Item", "Row"] : List Str).all fun c => decide (PySem.W.mroIn K (ga K c) (.type "object") = some true) && eqO (PySem.W.findIn K (.ref (ga K c)) "__class__") (some (some (.builtin "object.__class__"))), nilB, mostB,
  fun K => (["__iadd__", "__ior__", "__iand__", "__isub__", "__ixor__"] : List Str).all fun m => ownB K "Row" m,
  fun K => tabs.all fun f => tabB K (f K), fun K => (["list", "tuple"] : List String).all fun t => decide (PySem.W.kitOne K (.type t) (.ref (ga K "Row")) = some false),
  fun K => (Fa.cls "Trial").ok K, fun K => (Fa.mkr "Trial").ok K, fun K => (["owner", "kept"] : List Str).all fun f => (Fa.noat "Trial" f).ok K, fun K => (["__enter__", "__exit__"] : List Str).all fun m => (Fa.meth "Trial" m).ok K, fun K => (["__len__", "__getitem__", "stretch", "__setitem__", "settle", "trial", "attempt"] : List Str).all fun m => (Fa.meth "Row" m).ok K, fun K => PySem.W.noSeq K (ga K "Row"),
  fun K => decide ((tabs.map fun f => tabAt K (f K)).Nodup), fun K => decide (PySem.W.exmOne K (.ref (ga K "BadPlace")) (.ref (ga K "BadPlace")) = some true)]
/-- what the walk asks of the written part and of the module's names -/
structure Txt (K : Fg) (mg : Str → Option Value) : Prop where
  c : SaysZ fs fn K
  gl : ∀ x, (Fa.glo x).ok K = true → mg x = some (.ref (ga K x))
  fr : ∀ x, (Fa.free x).ok K = true → mg x = none
  nt : ∀ x i, (Fa.int x i).ok K = true → ∃ t, mg x = some (.int i t)
  tx : ∀ x z, (Fa.str x z).ok K = true → ∃ t, mg x = some (.str z t)
section
variable {K : Fg} {mg : Str → Option Value}
theorem Txt.cl (T : Txt K mg) {x : Str} (h : x ∈ clss) : mg x = some (.ref (ga K x)) := T.gl x (of_all (f := fun x => (Fa.glo x).ok K) (T.c.fact 0) h)
theorem Txt.fn (T : Txt K mg) {x : Str} (h : x ∈ fnames) : mg x = some (.ref (ga K x)) := T.gl x (of_all (f := fun x => (Fa.glo x).ok K) (T.c.fact 1) h)
theorem Txt.bl (T : Txt K mg) {x : Str} (h : x ∈ blts) : mg x = none := T.fr x (of_all (f := fun x => (Fa.free x).ok K) (T.c.fact 2) h)
theorem Txt.beyond (T : Txt K mg) : ∃ t, mg "BEYOND" = some (.int K09.beyond t) := T.nt _ _ (T.c.fact 3)
theorem Txt.longest (T : Txt K mg) : ∃ t, mg "LONGEST" = some (.int 8 t) := T.nt _ _ (T.c.fact 4)
theorem Txt.letters (T : Txt K mg) : ∃ t, mg "LETTERS" = some (.str K09.letters t) := T.tx _ _ (T.c.fact 5)
theorem Txt.xc (T : Txt K mg) {e : Str × Nat × Str} (h : e ∈ errs) : XC K (ga K e.1) := xc_ok (of_all (f := fun e : Str × Nat × Str => (Fy.xc e.1).ok K) (T.c.fact 6) h)
theorem Txt.xo (T : Txt K mg) : XO K := xo_ok (T.c.fact 7)
theorem Txt.ini (T : Txt K mg) {e : Str × Nat × Str} (h : e ∈ errs) : PySem.W.findIn K (.ref (ga K e.1)) "__init__" = some (some (.ref (ma K (ga K e.1) "__init__"))) ∧ PySem.W.typeIn K (.ref (ma K (ga K e.1) "__init__")) = some (.type "function") := ini_ok (of_all (f := fun e : Str × Nat × Str => (Fy.ini e.1).ok K) (T.c.fact 8) h)
theorem Txt.no (T : Txt K mg) {e : Str × Nat × Str} (h : e ∈ errs) : PySem.W.findIn K (.ref (ga K e.1)) e.2.2 = some none := names_ok (of_all (f := fun e : Str × Nat × Str => (Fy.names e.1 [e.2.2]).ok K) (T.c.fact 9) h) List.mem_cons_self
theorem Txt.kit (T : Txt K mg) {e d : Str × Nat × Str} (h : e ∈ errs) (g : d ∈ errs) : PySem.W.kitOne K (.ref (ga K e.1)) (.ref (ga K d.1)) = some (decide (e.1 = d.1)) := kit_ok (of_all (f := fun d : Str × Nat × Str => (Fy.kit e.1 d.1 (decide (e.1 = d.1))).ok K) (of_all (f := fun e : Str × Nat × Str => errs.all fun d => (Fy.kit e.1 d.1 (decide (e.1 = d.1))).ok K) (T.c.fact 10) h) g)
theorem Txt.exm (T : Txt K mg) {e : Str × Nat × Str} (h : e ∈ errs) : PySem.W.exmOne K (.ref (ga K e.1)) (.ref (ga K "HeadsError")) = some true := of_decide_eq_true (of_all (f := fun e : Str × Nat × Str => decide (PySem.W.exmOne K (.ref (ga K e.1)) (.ref (ga K "HeadsError")) = some true)) (T.c.fact 11) h)
theorem Txt.kind (T : Txt K mg) {t : String} (h : t ∈ kinds) : PySem.W.kitOne K (.type t) (.ref (ga K "Item")) = some false ∧ ∀ e ∈ errs, PySem.W.kitOne K (.type t) (.ref (ga K e.1)) = some false := by
  obtain ⟨a, b⟩ := ba (List.all_eq_true.mp (T.c.fact 12) t h)
  exact ⟨of_decide_eq_true a, fun e he => of_decide_eq_true (List.all_eq_true.mp b e he)⟩
theorem Txt.kitII (T : Txt K mg) : PySem.W.kitOne K (.ref (ga K "Item")) (.ref (ga K "Item")) = some true := kit_ok (T.c.fact 13)
theorem Txt.kitRR (T : Txt K mg) : PySem.W.kitOne K (.ref (ga K "Row")) (.ref (ga K "Row")) = some true := kit_ok (T.c.fact 14)
theorem Txt.nfR (T : Txt K mg) : PySem.W.notFirst K (ga K "Row") (.ref (ga K "Row")) = true := T.c.fact 15
theorem Txt.cls (T : Txt K mg) : Cls K (ga K "Item") := cls_ok (T.c.fact 16)
theorem Txt.mkI (T : Txt K mg) : Mk K (ga K "Item") (ma K (ga K "Item") "__init__") := mkr_ok (T.c.fact 17)
theorem Txt.na (T : Txt K mg) {f : Str} (h : f ∈ (["rank", "name"] : List Str)) : NoAttr K (ga K "Item") f := noat_ok (List.all_eq_true.mp (T.c.fact 18) f h)
theorem Txt.mtB (T : Txt K mg) : Meth K (ga K "Item") "before" (ma K (ga K "Item") "before") := meth_ok (T.c.fact 19)
theorem Txt.clsR (T : Txt K mg) : Cls K (ga K "Row") := cls_ok (T.c.fact 20)
theorem Txt.mkR (T : Txt K mg) : Mk K (ga K "Row") (ma K (ga K "Row") "__init__") := mkr_ok (T.c.fact 21)
theorem Txt.naR (T : Txt K mg) : NoAttr K (ga K "Row") "state" := noat_ok (T.c.fact 22)
theorem Txt.mtR (T : Txt K mg) {m : Str} (h : m ∈ (["listed", "__iter__"] : List Str)) : Meth K (ga K "Row") m (ma K (ga K "Row") m) := meth_ok (List.all_eq_true.mp (T.c.fact 23) m h)
theorem Txt.ob (T : Txt K mg) {c : Str} (h : c ∈ (["Item", "Row"] : List Str)) : PySem.W.mroIn K (ga K c) (.type "object") = some true ∧ PySem.W.findIn K (.ref (ga K c)) "__class__" = some (some (.builtin "object.__class__")) := by
  obtain ⟨a, b⟩ := ba (List.all_eq_true.mp (T.c.fact 24) c h)
  exact ⟨of_decide_eq_true a, eqO_ok b⟩
theorem Txt.nil (T : Txt K mg) (H : Hp) : SqT K H (nilAt K) [] := nilB_ok (T.c.fact 25) H
theorem Txt.most (T : Txt K mg) : ∃ u, Con K (ga K "Row") "MOST" (.int 200) u := mostB_ok (T.c.fact 26)
theorem Txt.own (T : Txt K mg) {m : Str} (h : m ∈ (["__iadd__", "__ior__", "__iand__", "__isub__", "__ixor__"] : List Str)) : OwnB K (ga K "Row") m (ma K (ga K "Row") m) := ownB_ok (List.all_eq_true.mp (T.c.fact 27) m h)
theorem Txt.tab (T : Txt K mg) {f : Fg → Addr} (h : f ∈ tabs) : tabB K (f K) = true := List.all_eq_true.mp (T.c.fact 28) f h
theorem Txt.clsT (T : Txt K mg) : Cls K (ga K "Trial") := cls_ok (T.c.fact 30)
theorem Txt.mkT (T : Txt K mg) : Mk K (ga K "Trial") (ma K (ga K "Trial") "__init__") := mkr_ok (T.c.fact 31)
theorem Txt.naT (T : Txt K mg) {f : Str} (h : f ∈ (["owner", "kept"] : List Str)) : NoAttr K (ga K "Trial") f := noat_ok (List.all_eq_true.mp (T.c.fact 32) f h)
theorem Txt.mtT (T : Txt K mg) {m : Str} (h : m ∈ (["__enter__", "__exit__"] : List Str)) : Meth K (ga K "Trial") m (ma K (ga K "Trial") m) := meth_ok (List.all_eq_true.mp (T.c.fact 33) m h)
theorem Txt.noSeq (T : Txt K mg) : PySem.W.noSeq K (ga K "Row") = true := T.c.fact 35
theorem Txt.mtR2 (T : Txt K mg) {m : Str} (h : m ∈ (["__len__", "__getitem__", "stretch", "__setitem__", "settle", "trial", "attempt"] : List Str)) : Meth K (ga K "Row") m (ma K (ga K "Row") m) := meth_ok (List.all_eq_true.mp (T.c.fact 34) m h)
theorem Txt.tabnd (T : Txt K mg) : (tabs.map fun f => tabAt K (f K)).Nodup := of_decide_eq_true (T.c.fact 36)
theorem Txt.exmB (T : Txt K mg) : PySem.W.exmOne K (.ref (ga K "BadPlace")) (.ref (ga K "BadPlace")) = some true := of_decide_eq_true (T.c.fact 37)
theorem Txt.kitR (T : Txt K mg) {t : String} (h : t ∈ (["list", "tuple"] : List String)) : PySem.W.kitOne K (.type t) (.ref (ga K "Row")) = some false := of_decide_eq_true (List.all_eq_true.mp (T.c.fact 29) t h)
end
abbrev s_draw : Stmt := topS 32
abbrev N_draw : List Str := ["_law_pen_here", "_law_many", "_law_digit", "_law_at", "_law_cell", "_law_great", "_law_mixed"]
theorem sc_draw : FnScope N_draw ["_law_pen_here", "_law_many"] (defScope s_draw) := ⟨rfl, rfl, rfl, by decide +kernel, rfl, by decide +kernel, by decide +kernel⟩
section
variable {P : Program} {w : World} {K : Fg} {mg : Str → Option Value} {base : Heap}
theorem ok_draw {f : Addr} {fd : FuncData} (F : FnP K "_law_draw" "_law_draw" s_draw f fd) (T : Txt K mg) : FnOk P w K mg base CX0 1 f fd ["_law_pen_here", "_law_many"] spDrawL := by
  have zint : mg "int" = none := T.bl (by decide +kernel)
  have zlen : mg "len" = none := T.bl (by decide +kernel)
  have zabs : mg "abs" = none := T.bl (by decide +kernel)
  refine F.ok sc_draw (fun vs H Q E h => ?_) (fun cdv A outer s H vs Q E hr h => ?_)
  · obtain ⟨p, l, m, c, rfl, _⟩ := h
    rfl
  · obtain ⟨p, l, m, c, rfl, hm0, hm1, ⟨ns, i, g, hp, hl, hlp, hn, hi0, hic, hg0⟩, hc, k⟩ := h
    have hsp : SqL K H p [.ref l, .int i, .int g] := SqL.of hp
    have hsl : SqL K H l (ns.map V.int) := SqL.of hl
    refine ⟨_, PSs.nox (pss_cons (ps_if (pt_cmpR op_gt (pe_ix ix_list (pv 0) pe_int (fun _ _ => rfl)) pe_int (nomark _)) (pss_cons (ps_set (i := 2) sc_draw.nd rfl (Or.inl rfl) (pe_op op_mod (pe_callTy call_int1 (by rfl) zint (by decide +kernel) (pa_cons (pe_ix ix_list (pv 0) pe_int (fun _ _ => rfl)) pa_nil)) (pv 1)))
    (pss_cons (ps_asg (pe_op op_fdiv (pe_callTy call_int1 (by rfl) zint (by decide +kernel) (pa_cons (pe_ix ix_list (pv 0) pe_int (fun _ _ => rfl)) pa_nil)) (pv 1)) (pg_sub (pv 0) pe_int set_list))
    (pss_one (ps_ret (pv 2))))) pss_nil)
    (pss_cons (ps_set (i := 3) sc_draw.nd rfl (Or.inl rfl) (pe_ix ix_list (pv 0) pe_int (fun _ _ => rfl)))
    (pss_cons (ps_asg (pe_op op_add (pv 3) pe_int) (pg_sub (pv 0) pe_int set_list))
    (pss_cons (ps_set (i := 4) sc_draw.nd rfl (Or.inl rfl) (pe_op op_add (pe_op op_mul pe_int (pv 3)) pe_int))
    (pss_mid (ps_if (pt_cmpR (op_neD hr.units) (pe_ix ix_list (pv 0) pe_int (fun _ _ => rfl)) (pe_lst pa_nil) (nomark _)) (pss_one (ps_set (i := 4) sc_draw.nd rfl (Or.inl rfl) (pe_ix ix_list (pe_ix ix_list (pv 0) pe_int (fun _ _ => rfl)) (pe_op op_mod (pe_callTy call_int1 (by rfl) zint (by decide +kernel) (pa_cons (pv 3) pa_nil)) (pe_callB call_len (by rfl) zlen (by decide +kernel) (pa_cons (pe_ix ix_list (pv 0) pe_int (fun _ _ => rfl)) pa_nil))) (fun _ _ => rfl)))) pss_nil)
    (pss_mid (ps_if (PW.pt (pw_and (pt_cmpR op_lt (pv 3) (pe_callB call_len (by rfl) zlen (by decide +kernel) (pa_cons (pe_ix ix_list (pv 0) pe_int (fun _ _ => rfl)) pa_nil)) (nomark _)) (pw_and1 (pt_cmpR op_ge (pe_callB call_abs (by rfl) zabs (by decide +kernel) (pa_cons (pv 4) pa_nil)) (pe_op op_pow pe_int pe_int) (nomark _))))) (pss_cons (ps_set (i := 5) sc_draw.nd rfl (Or.inl rfl) (pe_op op_add (pe_op op_mul pe_int (pe_op op_sub (pe_callB call_abs (by rfl) zabs (by decide +kernel) (pa_cons (pv 4) pa_nil)) (pe_op op_pow pe_int pe_int))) (pe_callTy call_int1 (by rfl) zint (by decide +kernel) (pa_cons (pe_cmpR op_lt (pv 4) pe_int (nomark _)) pa_nil))))
    (pss_cons (ps_asg (pe_op op_fdiv (pe_callTy call_int1 (by rfl) zint (by decide +kernel) (pa_cons (pv 5) pa_nil)) (pv 1)) (pg_sub (pv 0) pe_int set_list))
    (pss_one (ps_ret (pe_op op_mod (pe_callTy call_int1 (by rfl) zint (by decide +kernel) (pa_cons (pv 5) pa_nil)) (pv 1)))))) pss_nil)
    (pss_mid (ps_set (i := 6) sc_draw.nd rfl (Or.inl rfl) (pe_op op_mod (pe_callTy call_int1 (by rfl) zint (by decide +kernel) (pa_cons (pe_op op_pow (pe_op op_add (pe_op op_add (pe_op op_mod (pe_callTy call_int1 (by rfl) zint (by decide +kernel) (pa_cons (pv 4) pa_nil)) pe_int) (pe_op op_mul pe_int (pv 3))) pe_int) pe_int) pa_nil)) pe_int))
    (pss_mid (ps_set (i := 6) sc_draw.nd rfl (Or.inl rfl) (pe_op op_mod (pe_callTy call_int1 (by rfl) zint (by decide +kernel) (pa_cons (pe_op op_pow (pe_op op_add (pe_op op_add (pe_op op_mul (pv 6) (pe_op op_add (pe_op op_mul pe_int (pv 3)) pe_int)) (pe_op op_mul (pe_op op_mul pe_int (pv 3)) (pv 3))) pe_int) pe_int) pa_nil)) pe_int))
    (pss_one (ps_ret (pe_op op_mod (pe_callTy call_int1 (by rfl) zint (by decide +kernel) (pa_cons (pe_op op_fdiv (pv 6) pe_int) pa_nil)) (pv 1)))))))))))), ?_⟩
    -- if pen[2] > 0
    refine ⟨_, rfl, p, _, 2, .int g, rfl, rfl, hsp, rfl, _, _, rfl, rfl, _, rfl, ?_⟩
    refine ite2 (fun hgt => ?_) (fun hle => ?_)
    · refine ⟨_, rfl, p, _, 2, .int g, rfl, rfl, hsp, rfl, .inl ⟨g, rfl, _, rfl, g, m, rfl, rfl, hm0, ?_⟩⟩
      refine ⟨_, rfl, p, _, 2, .int g, rfl, rfl, hsp, rfl, .inl ⟨g, rfl, _, rfl, g, m, rfl, rfl, ⟨hm0, hm1⟩, ?_⟩⟩
      refine ⟨_, rfl, p, _, 2, 2, rfl, rfl, hp, rfl, _, rfl, ?_⟩
      refine k (g % m) _ (Int.emod_nonneg _ (by omega)) (Int.emod_lt_of_pos _ hm0) ⟨ns, i, g / m, upd_same, by rw [upd_ne hlp]; exact hl, hlp, hn, hi0, by omega, Int.ediv_nonneg hg0 (by omega)⟩ But.upd
    · -- at = pen[1]; pen[1] = at + 1; cell = ..
      refine ⟨_, rfl, p, _, 1, .int i, rfl, rfl, hsp, rfl, ?_⟩
      refine ⟨_, rfl, i, 1, rfl, rfl, _, rfl, p, _, 1, 1, rfl, rfl, hp, rfl, ?_⟩
      refine ⟨_, rfl, _, i, rfl, rfl, .inl ⟨by decide, by decide⟩, _, _, rfl, rfl, ?_⟩
      have hp1 : (upd H p (.lst ([V.ref l, .int i, .int g].set 1 (.int (i + 1))))) p = some (.lst [.ref l, .int (i + 1), .int g]) := upd_same
      have hl1 : (upd H p (.lst ([V.ref l, .int i, .int g].set 1 (.int (i + 1))))) l = some (.lst (ns.map V.int)) := by rw [upd_ne hlp]; exact hl
      have b1 : But p H (upd H p (.lst ([V.ref l, .int i, .int g].set 1 (.int (i + 1))))) := But.upd
      generalize upd H p (.lst ([V.ref l, .int i, .int g].set 1 (.int (i + 1)))) = H1 at hp1 hl1 b1 ⊢
      -- if pen[0] != []
      refine ⟨fun σ' H' => ∃ z : Int, σ' = [some (.ref p), some (.int m), none, some (.int i), some (.int z), none, none] ∧ H' p = some (.lst [.ref l, .int (i + 1), .int g]) ∧ H' l = some (.lst (ns.map V.int)) ∧ But p H H', ?_, ?_⟩
      · refine ⟨_, rfl, p, _, 0, .ref l, rfl, rfl, SqL.of hp1, rfl, (by show 0 ≤ sizeLine; decide), fun q hq => ?_⟩
        have hq1 : p ≠ q := ne_of_none hp1 hq
        have hq2 : l ≠ q := ne_of_none hl1 hq
        have hp2 : (upd H1 q (.lst [])) p = some (.lst [.ref l, .int (i + 1), .int g]) := by rw [upd_ne hq1]; exact hp1
        have hl2 : (upd H1 q (.lst [])) l = some (.lst (ns.map V.int)) := by rw [upd_ne hq2]; exact hl1
        have hq3 : (upd H1 q (.lst [])) q = some (.lst []) := upd_same
        have b2 : But p H (upd H1 q (.lst [])) := b1.trans (But.of (same_new hq))
        generalize upd H1 q (.lst []) = H2 at hp2 hl2 hq3 b2 ⊢
        refine ⟨_, _, .lst (SqL.of hl2) (dp_ints ns), .lst (SqL.of hq3) .nil, shaped_ints ns, shaped_ints [], _, rfl, ?_⟩
        refine ite2 (fun hne => ?_) (fun _ => ⟨_, rfl, hp2, hl2, b2⟩)
        have hns : 0 < ns.length := by
          cases ns with
          | nil => exact absurd hne (by decide)
          | cons n r => exact Nat.succ_pos _
        have hz : (0 : Int) < ((ns.map V.int).length : Int) := by rw [List.length_map]; omega
        have j0 := Int.emod_nonneg i (Int.ne_of_gt hz)
        have j1 := Int.emod_lt_of_pos i hz
        obtain ⟨z, ez⟩ : ∃ z, (ns.map V.int)[(i % ((ns.map V.int).length : Int)).toNat]? = some (V.int z) := by
          rw [List.length_map] at j0 j1 ⊢
          have hlt : (i % (ns.length : Int)).toNat < ns.length := by omega
          exact ⟨ns[(i % (ns.length : Int)).toNat], by rw [List.getElem?_map, List.getElem?_eq_getElem hlt]; rfl⟩
        exact ⟨_, rfl, p, _, 0, .ref l, rfl, rfl, SqL.of hp2, rfl, _, rfl, .inl ⟨i, rfl, _, rfl, p, _, 0, .ref l, rfl, rfl, SqL.of hp2, rfl, _, _, rfl, .inl ⟨_, SqL.of hl2, rfl⟩, _, _, rfl, rfl, hz, l, _, _, .int z, rfl, rfl, SqL.of hl2, atI_of j0 ez, _, rfl, hp2, hl2, b2⟩⟩
      · rintro σ2 H2 ⟨z, rfl, hp2, hl2, b2⟩
        -- if at < len(pen[0]) and abs(cell) >= 10 ** 18
        refine ⟨fun σ' H' => σ' = [some (.ref p), some (.int m), none, some (.int i), some (.int z), none, none] ∧ H' = H2, ?_, ?_⟩
        · refine ⟨_, rfl, _, rfl, p, _, 0, .ref l, rfl, rfl, SqL.of hp2, rfl, _, _, rfl, .inl ⟨_, SqL.of hl2, rfl⟩, _, _, rfl, rfl, _, rfl, ?_⟩
          refine ite2 (fun _ => ?_) (fun _ => ⟨rfl, rfl⟩)
          refine ⟨_, rfl, _, rfl, _, _, rfl, rfl, ⟨by decide, by decide, by decide⟩, _, _, rfl, rfl, _, rfl, ?_⟩
          refine ite2 (fun hgr => ?_) (fun _ => ⟨rfl, rfl⟩)
          have hgr' := of_decide_eq_true hgr
          refine ⟨_, rfl, _, rfl, _, _, rfl, rfl, ⟨by decide, by decide, by decide⟩, _, _, rfl, rfl, _, _, rfl, rfl, .inl ⟨by decide, by decide⟩, _, rfl, _, _, rfl, rfl, .inr ⟨_, rfl, _, _, rfl, rfl, ?_⟩⟩
          refine ⟨_, rfl, .inl ⟨_, rfl, _, rfl, _, _, rfl, rfl, ⟨hm0, hm1⟩, _, rfl, p, _, 2, 2, rfl, rfl, hp2, rfl, ?_⟩⟩
          refine ⟨_, rfl, .inl ⟨_, rfl, _, rfl, _, _, rfl, rfl, hm0, ?_⟩⟩
          have hpos : (0 : Int) ≤ 2 * ((if z < 0 then -z else z) - 10 ^ (18 : Int).toNat) + (if decide (z < 0) = true then 1 else 0) := by
            have h2 : (0 : Int) ≤ (if decide (z < 0) = true then 1 else 0) := by split <;> decide
            omega
          exact k _ _ (Int.emod_nonneg _ (Int.ne_of_gt hm0)) (Int.emod_lt_of_pos _ hm0) ⟨ns, i + 1, _, upd_same, by rw [upd_ne hlp]; exact hl2, hlp, hn, by omega, by omega, Int.ediv_nonneg hpos (Int.le_of_lt hm0)⟩ (b2.trans But.upd)
        · rintro σ3 H3 ⟨rfl, rfl⟩
          -- the two mixings
          refine ⟨fun σ' H' => ∃ x : Int, σ' = [some (.ref p), some (.int m), none, some (.int i), some (.int z), none, some (.int x)] ∧ H' = H3 ∧ 0 ≤ x ∧ x < 2147483648, ?_, ?_⟩
          · refine ⟨_, rfl, .inl ⟨_, rfl, _, _, rfl, rfl, (by show (0 : Int) < _; decide), _, rfl, _, _, rfl, rfl, .inl ⟨by decide, by decide⟩, _, _, rfl, rfl, _, _, rfl, rfl, _, _, rfl, rfl, ⟨by decide, by decide, ?_⟩, .inl ⟨_, rfl, _, _, rfl, rfl, (by show (0 : Int) < _; decide), _, rfl, rfl, Int.emod_nonneg _ (by decide), Int.lt_trans (Int.emod_lt_of_pos _ (by decide)) (by decide)⟩⟩⟩
            apply pow_ok <;> omega
          rintro σ4 H4 ⟨x, rfl, rfl, x0, x1⟩
          have hi6 : i ≤ 1000000 := by omega
          have q1 := mul_le' x0 (Int.le_of_lt x1) (show (0 : Int) ≤ 2 * i by omega) (show 2 * i ≤ 2000000 by omega)
          have q2 := mul_le' hi0 hi6 hi0 hi6
          refine ⟨fun σ' H' => ∃ y : Int, σ' = [some (.ref p), some (.int m), none, some (.int i), some (.int z), none, some (.int y)] ∧ H' = H4, ?_, ?_⟩
          · refine ⟨_, rfl, _, rfl, _, _, rfl, rfl, .inl ⟨by decide, by decide⟩, _, _, rfl, rfl, _, _, rfl, rfl, .inl ⟨by omega, by omega⟩, _, rfl, _, _, rfl, rfl, .inl ⟨by decide, by decide⟩, _, rfl, _, _, rfl, rfl, .inl ⟨by omega, by omega⟩, _, _, rfl, rfl, _, _, rfl, rfl, _, _, rfl, rfl, ⟨by decide, by decide, ?_⟩, .inl ⟨_, rfl, _, _, rfl, rfl, (by show (0 : Int) < _; decide), _, rfl, rfl⟩⟩
            rw [Int.mul_add, Int.mul_assoc _ i i]
            apply pow_ok <;> omega
          rintro σ5 H5 ⟨y, rfl, rfl⟩
          refine ⟨_, rfl, _, _, rfl, rfl, ⟨by decide, by decide⟩, .inl ⟨_, rfl, _, rfl, _, _, rfl, rfl, hm0, ?_⟩⟩
          exact k _ _ (Int.emod_nonneg _ (Int.ne_of_gt hm0)) (Int.emod_lt_of_pos _ hm0) ⟨ns, i + 1, g, hp2, hl2, hlp, hn, by omega, by omega, hg0⟩ b2
end
abbrev s_pen : Stmt := topS 31
abbrev N_pen : List Str := ["_law_script"]
theorem sc_pen : FnScope N_pen ["_law_script"] (defScope s_pen) := ⟨rfl, rfl, rfl, by decide +kernel, rfl, by decide +kernel, by decide +kernel⟩
abbrev s_pick : Stmt := topS 33
abbrev N_pick : List Str := ["_law_pen_here", "_law_some"]
theorem sc_pick : FnScope N_pick ["_law_pen_here", "_law_some"] (defScope s_pick) := ⟨rfl, rfl, rfl, by decide +kernel, rfl, by decide +kernel, by decide +kernel⟩
section
variable {P : Program} {w : World} {K : Fg} {mg : Str → Option Value} {base : Heap}
theorem ok_pen {f : Addr} {fd : FuncData} (F : FnP K "_law_pen" "_law_pen" s_pen f fd) (T : Txt K mg) : FnOk P w K mg base CX0 1 f fd ["_law_script"] (spPenL K) := by
  have zlist : mg "list" = none := T.bl (by decide +kernel)
  refine F.ok sc_pen (fun vs H Q E h => ?_) (fun cdv A outer s H vs Q E hr h => ?_)
  · obtain ⟨a, ns, rfl, _⟩ := h
    rfl
  · obtain ⟨a, ns, rfl, hS, hn, k⟩ := h
    obtain ⟨ms, em, hm⟩ := cut_ints ns none (some 63)
    refine ⟨_, PSs.nox (pss_one (ps_ret (pe_lst (pa_cons (pe_callTy call_list_of (by rfl) zlist (by decide +kernel) (pa_cons (pe_slice sl_list (pv 0) po_none (po_some pe_int)) pa_nil)) (pa_cons pe_int (pa_cons pe_int pa_nil)))))), ?_⟩
    refine ⟨_, rfl, _, rfl, a, _, rfl, hS, fun q hq => ⟨q, _, rfl, .inl (SqL.of upd_same), fun l hl => ⟨sz1000 (by show 3 ≤ 1000; decide), fun p hp => ?_⟩⟩⟩
    rw [em] at hl hp ⊢
    have s1 := same_new (o := .lst (ms.map V.int)) hq
    have s2 := same_new (o := .lst (ms.map V.int)) hl
    have s3 := same_new (o := .lst [.ref l, .int 0, .int 0]) hp
    have hl' : (upd (upd H q (.lst (ms.map V.int))) l (.lst (ms.map V.int))) l = some (.lst (ms.map V.int)) := upd_same
    exact k p l _ ((s1.trans s2).free hp) ⟨ms, 0, 0, upd_same, s3 _ _ hl', ne_of_none hl' hp, by omega, by decide, by decide, by decide⟩ ((s1.trans s2).trans s3)
theorem ok_pick {f fD : Addr} {fd fdD : FuncData} (F : FnP K "_law_pick" "_law_pick" s_pick f fd) (FD : FnP K "_law_draw" "_law_draw" s_draw fD fdD) (gD : mg "_law_draw" = some (.ref fD)) (T : Txt K mg) : FnOk P w K mg base CX0 2 f fd ["_law_pen_here", "_law_some"] (spPickL K) := by
  have zlen : mg "len" = none := T.bl (by decide +kernel)
  have G_draw : FnOk P w K mg base CX0 1 fD fdD ["_law_pen_here", "_law_many"] spDrawL := ok_draw FD T
  have b_draw : Binds K fdD ["_law_pen_here", "_law_many"] [] := FD.bindsN fun _ _ _ _ _ _ us hl => match us, hl with | [_, _], _ => rfl
  refine F.ok sc_pick (fun vs H Q E h => ?_) (fun cdv A outer s H vs Q E hr h => ?_)
  · obtain ⟨p, l, q, xs, c, rfl, _⟩ := h
    rfl
  · obtain ⟨p, l, q, xs, c, rfl, hS, hqp, hx0, hx1, hP, hc, k⟩ := h
    refine ⟨_, PSs.nox (pss_one (ps_ret (pe_ix ix_list (pv 1) (pe_call G_draw (hr.mono (by decide)) rfl gD FD.kp b_draw .nil pass0 (pa_cons (pv 0) (pa_cons (pe_callB call_len (by rfl) zlen (by decide +kernel) (pa_cons (pv 1) pa_nil)) pa_nil))) (fun _ _ => rfl)))), ?_⟩
    refine ⟨_, rfl, _, rfl, _, rfl, _, _, rfl, .inl ⟨xs, hS, rfl⟩, p, l, (xs.length : Int), c, rfl, by omega, by omega, hP, hc, fun r H' h0 h1 hP' hB => ?_⟩
    have hlt : r.toNat < xs.length := by omega
    exact ⟨q, xs, r, _, rfl, rfl, hB.seq hqp hS, atI_of h0 (List.getElem?_eq_getElem hlt), k _ H' (List.getElem_mem hlt) hP' hB⟩
end
end K09
/-! Tw: the head's hook over addresses that are given by number: nothing is gathered. -/
namespace Tw
open PySem PySem.Spec PyProof.Rows L2 He
def obsQ (as : List Addr) (fs : Fz) (fn : List DefA) (ls : List (Fg → Addr)) (g : Addr → Option Obj) : AlL := (obsZ fs fn (frG g as), ls.map fun f => isTab (g (tabAt (frG g as) (f (frG g as)))))
def hookQ (as : List Addr) (fs : Fz) (fn : List DefA) (ls : List (Fg → Addr)) : PySem.W.Hook where
  α := AlL
  obs := fun s => obsQ as fs fn ls s.heap.get?
  val := fun _ => (valZ fn, ls.map fun _ => true)
  says := fun _ h => ∃ K : Fg, K.In h ∧ SaysZ fs fn K ∧ ∀ f ∈ ls, isTab (h.get? (tabAt K (f K))) = true
  of := fun _ s e => by
    have e2 : (ls.map fun f => isTab (s.heap.get? (tabAt (frG s.heap.get? as) (f (frG s.heap.get? as))))) = ls.map fun _ => true := congrArg (fun z : AlL => z.2) e
    exact ⟨_, frG_in, congrArg (fun z : AlL => z.1) e, fun f hf => List.map_inj_left.mp e2 f hf⟩
  keeps := fun _ _ _ ⟨K, hK, c, t⟩ k => ⟨K, PySem.W.Frag.In.keeps hK k, c, fun f hf => by
    rw [k _ _ (isTab_ok (t f hf))]
    rfl⟩
theorem obsQ_eq {as : List Addr} {fs : Fz} {fn : List DefA} {ls : List (Fg → Addr)} {g : Addr → Option Obj} {s : Shared} (h : ∀ a, g a = s.heap.get? a) : obsQ as fs fn ls g = (hookQ as fs fn ls).obs s := by
  rw [show g = s.heap.get? from funext h]
  rfl
end Tw
namespace K09
open PySem PySem.Spec PyProof.Rows L2 He Tw
abbrev R : PySem.W.OpenRow := PySem.W.OpenLaw.row PySem.Challenge.rw_twoheads_k09_rows_settled_and_tried
abbrev ls : List (Fg → Addr) := tabs
/-- the written part's addresses behind the top, the lambdas' tables left out -/
def ads : List Addr := [3, 6, 4, 21, 31, 44, 56, 75, 94, 113, 132, 139, 146, 153, 199, 210, 217, 224, 229, 236, 267, 518, 529, 534, 541, 548, 555, 562, 569, 574, 581, 588, 595, 600, 605, 612, 619, 626, 633, 640,
  645, 650, 657, 0, 20, 30, 43, 55, 74, 93, 112, 131, 138, 145, 152, 198, 209, 216, 223, 228, 235, 266, 517, 528, 533, 540, 547, 554, 561, 568, 573, 580, 587, 594, 599, 604, 611, 618, 625, 632,
  639, 644, 649, 656, 15, 16, 17, 18, 19, 29, 32, 42, 54, 72, 73, 91, 92, 110, 111, 129, 130, 135, 136, 137, 140, 141, 142, 143, 144, 147, 148, 149, 150, 151, 168, 175, 182, 189, 196, 197,
  200, 201, 204, 205, 206, 207, 208, 211, 212, 213, 214, 215, 218, 219, 220, 221, 222, 225, 226, 227, 230, 231, 232, 233, 234, 250, 257, 264, 265, 268, 269, 287, 296, 304, 311, 318, 325, 332, 339, 346,
  353, 358, 365, 372, 377, 384, 391, 398, 405, 412, 419, 426, 433, 440, 447, 454, 461, 468, 475, 482, 489, 496, 501, 508, 515, 516, 519, 520, 523, 524, 525, 526, 527, 530, 531, 532, 535, 536, 537, 538,
  539, 542, 543, 544, 545, 546, 549, 550, 551, 552, 553, 556, 557, 558, 559, 560, 563, 564, 565, 566, 567, 570, 571, 572, 575, 576, 577, 578, 579, 582, 583, 584, 585, 586, 589, 590, 591, 592, 593, 596,
  598, 601, 603, 606, 607, 608, 609, 610, 613, 614, 615, 616, 617, 620, 622, 623, 624, 627, 629, 630, 631, 634, 635, 636, 637, 638, 641, 642, 643, 646, 648, 651, 652, 653, 654, 655, 71, 90, 109, 128,
  167, 161, 174, 181, 188, 195, 249, 256, 263, 286, 280, 294, 295, 303, 310, 317, 324, 331, 338, 345, 352, 357, 364, 371, 376, 383, 390, 397, 404, 411, 418, 425, 432, 439, 446, 453, 460, 467, 474, 481,
  488, 495, 500, 507, 514, 66, 67, 68, 69, 70, 85, 86, 87, 88, 89, 104, 105, 106, 107, 108, 123, 124, 125, 126, 127, 162, 163, 164, 165, 166, 169, 170, 171, 172, 173, 176, 177, 178, 179, 180,
  183, 184, 185, 186, 187, 190, 191, 192, 193, 194, 244, 245, 246, 247, 248, 251, 252, 253, 254, 255, 258, 259, 260, 261, 262, 281, 282, 283, 284, 285, 279, 293, 297, 298, 299, 300, 301, 302, 305, 306,
  307, 308, 309, 312, 313, 314, 315, 316, 319, 320, 321, 322, 323, 326, 327, 328, 329, 330, 333, 334, 335, 336, 337, 340, 341, 342, 343, 344, 347, 348, 349, 350, 351, 354, 355, 356, 359, 360, 361, 362,
  363, 366, 367, 368, 369, 370, 373, 374, 375, 378, 379, 380, 381, 382, 385, 386, 387, 388, 389, 392, 393, 394, 395, 396, 399, 400, 401, 402, 403, 406, 407, 408, 409, 410, 413, 414, 415, 416, 417, 420,
  421, 422, 423, 424, 427, 428, 429, 430, 431, 434, 435, 436, 437, 438, 441, 442, 443, 444, 445, 448, 449, 450, 451, 452, 455, 456, 457, 458, 459, 462, 463, 464, 465, 466, 469, 470, 471, 472, 473, 476,
  477, 478, 479, 480, 483, 484, 485, 486, 487, 490, 491, 492, 493, 494, 497, 499, 502, 503, 504, 505, 506, 509, 510, 511, 512, 513, 2]
abbrev hk : PySem.W.Hook := hookQ ads fs fn ls
def ob (s : PySem.W.SharedT) : AlL := obsQ ads fs fn ls (HandSHeadRun.getT s)
theorem ob_eq (s : PySem.W.SharedT) : ob s = hk.obs s.abs := obsQ_eq (HandSHeadRun.getT_eq s)
def others : List Str := clss ++ fnames.dropLast ++ (["BEYOND", "LONGEST", "LETTERS", "_wall", "repeated"] : List Str)
theorem run (w : World) : HandSHeadRun.RunEq R (PySem.W.view R.prog [49]) hk ob 9000 others w := by
  intro os
  kernel_rfl
end K09
namespace K09
open PySem PySem.Spec PyProof.Rows L2 He Tw
/-! ### the program -/
def rankOk : V → Bool
  | .int i => decide (-beyond < i) && decide (i < beyond)
  | _ => false
def textOk (z : Str) : Bool := decide (z.length ≤ 8) && z.cps.toList.all fun c => decide (c ∈ letters.cps.toList)
def nameOk : V → Bool
  | .str z => textOk z
  | _ => false
/-- an item of rank i and name z -/
def It (K : Fg) (H : Hp) (a : Addr) (i : Int) (z : Str) : Prop := ∃ dx, H a = some (.ins (ga K "Item") dx [("rank", .int i), ("name", .str z)])
theorem It.same {K : Fg} {H H' : Hp} {a : Addr} {i : Int} {z : Str} (e : Same H H') (h : It K H a i z) : It K H' a i z := by
  obtain ⟨dx, h⟩ := h
  exact ⟨dx, e _ _ h⟩
def spIni (C : Addr) (f : Str) : Sp := fun vs H Q _ => ∃ (a : Addr) (v : V), vs = [.ref a, v] ∧ H a = some (exo a C none) ∧ ∀ (d : Addr) (H' : Hp), H d = none → d ≠ a → H' a = some (exo a C (some d)) → H' d = some (exd d [(f, v)]) → But a H H' → Q .non H'
def spNum : Sp := fun vs H Q _ => ∃ (x : V) (T : String), vs = [x] ∧ Bv H x T ∧ Q (.bl (isI x)) H
def spRank : Sp := fun vs H Q _ => ∃ (x : V) (T : String), vs = [x] ∧ Bv H x T ∧ Q (.bl (rankOk x)) H
def spLet : Sp := fun vs H Q _ => ∃ (x : V) (T : String), vs = [x] ∧ Bv H x T ∧ (∀ z, x = .str z → z.length ≤ 1000) ∧ ∀ H', Same H H' → Q (.bl (nameOk x)) H'
section
variable {P : Program} {w : World} {K : Fg} {mg : Str → Option Value} {base : Heap}
abbrev s_err (i : Nat) : Stmt := inClass (topS i) 0
theorem sc_BadItem : FnScope ["self", "part"] ["self", "part"] (defScope (s_err 5)) := ⟨rfl, rfl, rfl, by decide +kernel, rfl, by decide +kernel, by decide +kernel⟩
theorem ok_BadItem {f : Addr} {fd : FuncData} (F : FnP K "__init__" "BadItem.__init__" (s_err 5) f fd) (T : Txt K mg) : FnOk P w K mg base CX0 1 f fd ["self", "part"] (spIni (ga K "BadItem") "part") := by
  have m : (("BadItem", 5, "part") : Str × Nat × Str) ∈ errs := by decide +kernel
  refine F.ok sc_BadItem (fun vs H Q E h => ?_) (fun cdv A outer s H vs Q E hr h => ?_)
  · obtain ⟨a, v, rfl, _⟩ := h
    rfl
  · obtain ⟨a, v, rfl, ha, k⟩ := h
    refine ⟨_, PSs.nox (pss_one (ps_ost (pv 0) (pv 1))), ?_⟩
    refine ⟨_, rfl, _, rfl, a, _, rfl, (T.xc m).ox, T.no m, .inl ⟨ha, fun d hd hda => k d _ hd hda upd_same (by rw [upd_ne hda]; exact upd_same) fun b o hb hba => ?_⟩⟩
    rw [upd_ne hba, upd_ne (ne_of_none hb hd)]
    exact hb
theorem sc_BadPlace : FnScope ["self", "at"] ["self", "at"] (defScope (s_err 6)) := ⟨rfl, rfl, rfl, by decide +kernel, rfl, by decide +kernel, by decide +kernel⟩
theorem ok_BadPlace {f : Addr} {fd : FuncData} (F : FnP K "__init__" "BadPlace.__init__" (s_err 6) f fd) (T : Txt K mg) : FnOk P w K mg base CX0 1 f fd ["self", "at"] (spIni (ga K "BadPlace") "at") := by
  have m : (("BadPlace", 6, "at") : Str × Nat × Str) ∈ errs := by decide +kernel
  refine F.ok sc_BadPlace (fun vs H Q E h => ?_) (fun cdv A outer s H vs Q E hr h => ?_)
  · obtain ⟨a, v, rfl, _⟩ := h
    rfl
  · obtain ⟨a, v, rfl, ha, k⟩ := h
    refine ⟨_, PSs.nox (pss_one (ps_ost (pv 0) (pv 1))), ?_⟩
    refine ⟨_, rfl, _, rfl, a, _, rfl, (T.xc m).ox, T.no m, .inl ⟨ha, fun d hd hda => k d _ hd hda upd_same (by rw [upd_ne hda]; exact upd_same) fun b o hb hba => ?_⟩⟩
    rw [upd_ne hba, upd_ne (ne_of_none hb hd)]
    exact hb
theorem sc_Disordered : FnScope ["self", "at"] ["self", "at"] (defScope (s_err 7)) := ⟨rfl, rfl, rfl, by decide +kernel, rfl, by decide +kernel, by decide +kernel⟩
theorem ok_Disordered {f : Addr} {fd : FuncData} (F : FnP K "__init__" "Disordered.__init__" (s_err 7) f fd) (T : Txt K mg) : FnOk P w K mg base CX0 1 f fd ["self", "at"] (spIni (ga K "Disordered") "at") := by
  have m : (("Disordered", 7, "at") : Str × Nat × Str) ∈ errs := by decide +kernel
  refine F.ok sc_Disordered (fun vs H Q E h => ?_) (fun cdv A outer s H vs Q E hr h => ?_)
  · obtain ⟨a, v, rfl, _⟩ := h
    rfl
  · obtain ⟨a, v, rfl, ha, k⟩ := h
    refine ⟨_, PSs.nox (pss_one (ps_ost (pv 0) (pv 1))), ?_⟩
    refine ⟨_, rfl, _, rfl, a, _, rfl, (T.xc m).ox, T.no m, .inl ⟨ha, fun d hd hda => k d _ hd hda upd_same (by rw [upd_ne hda]; exact upd_same) fun b o hb hba => ?_⟩⟩
    rw [upd_ne hba, upd_ne (ne_of_none hb hd)]
    exact hb
theorem sc_TooMany : FnScope ["self", "most"] ["self", "most"] (defScope (s_err 8)) := ⟨rfl, rfl, rfl, by decide +kernel, rfl, by decide +kernel, by decide +kernel⟩
theorem ok_TooMany {f : Addr} {fd : FuncData} (F : FnP K "__init__" "TooMany.__init__" (s_err 8) f fd) (T : Txt K mg) : FnOk P w K mg base CX0 1 f fd ["self", "most"] (spIni (ga K "TooMany") "most") := by
  have m : (("TooMany", 8, "most") : Str × Nat × Str) ∈ errs := by decide +kernel
  refine F.ok sc_TooMany (fun vs H Q E h => ?_) (fun cdv A outer s H vs Q E hr h => ?_)
  · obtain ⟨a, v, rfl, _⟩ := h
    rfl
  · obtain ⟨a, v, rfl, ha, k⟩ := h
    refine ⟨_, PSs.nox (pss_one (ps_ost (pv 0) (pv 1))), ?_⟩
    refine ⟨_, rfl, _, rfl, a, _, rfl, (T.xc m).ox, T.no m, .inl ⟨ha, fun d hd hda => k d _ hd hda upd_same (by rw [upd_ne hda]; exact upd_same) fun b o hb hba => ?_⟩⟩
    rw [upd_ne hba, upd_ne (ne_of_none hb hd)]
    exact hb
abbrev s_num : Stmt := topS 15
theorem sc_num : FnScope ["value"] ["value"] (defScope s_num) := ⟨rfl, rfl, rfl, by decide +kernel, rfl, by decide +kernel, by decide +kernel⟩
theorem ok_num {f : Addr} {fd : FuncData} (F : FnP K "is_number" "is_number" s_num f fd) (T : Txt K mg) : FnOk P w K mg base CX0 1 f fd ["value"] spNum := by
  have zisi : mg "isinstance" = none := T.bl (by decide +kernel)
  have zint : mg "int" = none := T.bl (by decide +kernel)
  have zbool : mg "bool" = none := T.bl (by decide +kernel)
  refine F.ok sc_num (fun vs H Q E h => ?_) (fun cdv A outer s H vs Q E hr h => ?_)
  · obtain ⟨x, t, rfl, _⟩ := h
    rfl
  · obtain ⟨x, t, rfl, b, k⟩ := h
    refine ⟨_, PSs.nox (pss_one (ps_ret (pe_and (pe_callB call_isA (by rfl) zisi (by decide +kernel) (pa_cons (pv 0) (pa_cons (pe_bltn (v := .ty "int") (by rfl) zint (by decide +kernel) rfl) pa_nil))) (pe_one (pe_not (pe_callB call_isA (by rfl) zisi (by decide +kernel) (pa_cons (pv 0) (pa_cons (pe_bltn (v := .ty "bool") (by rfl) zbool (by decide +kernel) rfl) pa_nil)))))))), ?_⟩
    obtain ⟨k1, k2, k3⟩ := b.kits (K := K)
    refine ⟨_, rfl, x, .ty "int", _, _, _, rfl, .ty "int", .inl b.ty, k3, _, rfl, ?_⟩
    cases x with
    | bl y => exact ⟨_, rfl, .bl y, .ty "bool", _, _, _, rfl, .ty "bool", .inl b.ty, k2, _, rfl, k⟩
    | int i => exact ⟨_, rfl, .int i, .ty "bool", _, _, _, rfl, .ty "bool", .inl b.ty, k2, _, rfl, k⟩
    | _ => exact k
abbrev s_rnk : Stmt := topS 16
theorem sc_rnk : FnScope ["value"] ["value"] (defScope s_rnk) := ⟨rfl, rfl, rfl, by decide +kernel, rfl, by decide +kernel, by decide +kernel⟩
theorem ok_rnk {f fN : Addr} {fd fdN : FuncData} (F : FnP K "is_rank" "is_rank" s_rnk f fd) (FN : FnP K "is_number" "is_number" s_num fN fdN) (gN : mg "is_number" = some (.ref fN)) (T : Txt K mg) : FnOk P w K mg base CX0 2 f fd ["value"] spRank := by
  obtain ⟨tb, gB⟩ := T.beyond
  have G_num : FnOk P w K mg base CX0 1 fN fdN ["value"] spNum := ok_num FN T
  have b_num : Binds K fdN ["value"] [] := FN.bindsN fun _ _ _ _ _ _ us hl => match us, hl with | [_], _ => rfl
  refine F.ok sc_rnk (fun vs H Q E h => ?_) (fun cdv A outer s H vs Q E hr h => ?_)
  · obtain ⟨x, t, rfl, _⟩ := h
    rfl
  · obtain ⟨x, t, rfl, b, k⟩ := h
    refine ⟨_, PSs.nox (pss_one (ps_ret (pe_and (pe_call G_num (hr.mono (by decide)) rfl gN FN.kp b_num .nil pass0 (pa_cons (pv 0) pa_nil)) (pe_one (pe_chain op_lt op_lt (pe_un un_neg (pe_glob (v := .int beyond) rfl gB ⟨_, rfl⟩)) (pv 0) (pe_glob (v := .int beyond) rfl gB ⟨_, rfl⟩)))))), ?_⟩
    refine ⟨_, rfl, x, t, rfl, b, _, rfl, ?_⟩
    cases x with
    | int i =>
      refine ⟨_, rfl, _, rfl, _, _, rfl, rfl, _, rfl, ?_⟩
      have e : rankOk (.int i) = (decide (-beyond < i) && decide (i < beyond)) := rfl
      rw [e] at k
      by_cases h1 : -beyond < i
      · rw [decide_eq_true h1, Bool.true_and] at k
        rw [if_pos (decide_eq_true h1)]
        exact ⟨_, _, rfl, rfl, k⟩
      · rw [decide_eq_false h1, Bool.false_and] at k
        rw [decide_eq_false h1]
        exact k
    | _ => exact k
end
end K09
namespace K09
open PySem PySem.Spec PyProof.Rows L2 He Tw
abbrev s_let : Stmt := topS 12
abbrev N_let : List Str := ["value", "sign"]
theorem sc_let : FnScope N_let ["value"] (defScope s_let) := ⟨rfl, rfl, rfl, by decide +kernel, rfl, by decide +kernel, by decide +kernel⟩
def inL (c : Nat) : Bool := decide (c ∈ letters.cps.toList)
theorem all_bl (l : List Nat) : ((l.map inL).all id) = l.all inL := by
  induction l with
  | nil => rfl
  | cons c r ih => rw [List.map_cons, List.all_cons, List.all_cons, ih]; rfl
section
variable {P : Program} {w : World} {K : Fg} {mg : Str → Option Value} {base : Heap}
theorem ok_let {f : Addr} {fd : FuncData} (F : FnP K "is_lettered" "is_lettered" s_let f fd) (T : Txt K mg) : FnOk P w K mg base CX0 1 f fd ["value"] spLet := by
  have zisi : mg "isinstance" = none := T.bl (by decide +kernel)
  have zstr : mg "str" = none := T.bl (by decide +kernel)
  have zlen : mg "len" = none := T.bl (by decide +kernel)
  have zall : mg "all" = none := T.bl (by decide +kernel)
  obtain ⟨tL, gL⟩ := T.longest
  obtain ⟨tS, gS⟩ := T.letters
  refine F.ok sc_let (fun vs H Q E h => ?_) (fun cdv A outer s H vs Q E hr h => ?_)
  · obtain ⟨x, t, rfl, _⟩ := h
    rfl
  · obtain ⟨x, t, rfl, b, hz, k⟩ := h
    refine ⟨_, PSs.nox (pss_cons (ps_if (PW.pt (pw_or (pt_not (pt_val (pe_callB call_isA (by rfl) zisi (by decide +kernel) (pa_cons (pv 0) (pa_cons (pe_bltn (v := .ty "str") (by rfl) zstr (by decide +kernel) rfl) pa_nil))))) (pw_or1 (pt_cmpR op_gt (pe_callB call_len (by rfl) zlen (by decide +kernel) (pa_cons (pv 0) pa_nil)) (pe_glob (v := .int 8) rfl gL ⟨_, rfl⟩) (nomark _))))) (pss_one (ps_ret pe_bl)) pss_nil)
    (pss_one (ps_ret (pe_callB (cr_all rfl) (by rfl) zall (by decide +kernel) (pa_cons (pe_lc (own := [("sign", 1)]) (g := gName 1) (tt := tYes) (by rfl) sc_let.nd (pi_str (pv 0)) (blkOk_by (own := [("sign", 1)]) (N := N_let) (sc := defScope s_let) (by decide +kernel)) (fun _ _ _ _ _ => (pg_name (i := 1) sc_let.nd rfl (Or.inl rfl))) (fun _ _ _ _ _ => pts_nil) (fun _ _ _ _ _ => (pe_cmpR op_in_sign (pv 1) (pe_glob (v := .str letters) rfl gS ⟨_, rfl⟩) rfl))) pa_nil))))), ?_⟩
    obtain ⟨k1, k2, k3⟩ := b.kits (K := K)
    refine ⟨_, rfl, x, .ty "str", _, _, _, rfl, .ty "str", .inl b.ty, k1, _, rfl, ?_⟩
    cases x with
    | str z =>
      have hl := hz z rfl
      refine ⟨_, rfl, _, _, rfl, ⟨Nat.le_trans hl (by decide), rfl⟩, _, _, rfl, rfl, _, rfl, ?_⟩
      refine ite2 (fun h => ?_) (fun h => ?_)
      · have h2 : ¬ z.length ≤ 8 := by
          have := of_decide_eq_true h
          omega
        have e : nameOk (.str z) = false := by
          show (decide (z.length ≤ 8) && _) = false
          rw [decide_eq_false h2, Bool.false_and]
        rw [e] at k
        exact k H fun _ _ q => q
      · have h2 : z.length ≤ 8 := by
          have h3 : ¬ (8 : Int) < (z.length : Int) := fun y => h (decide_eq_true y)
          omega
        have e : nameOk (.str z) = z.cps.toList.all inL := by
          show (decide (z.length ≤ 8) && _) = _
          rw [decide_eq_true h2, Bool.true_and]
          rfl
        rw [e] at k
        refine ⟨_, rfl, z, rfl, fun D hD => lcStr (fun i H' => Same H H' ∧ H' D = some (.lst (((z.cps.toList.take i).map inL).map V.bl))) ⟨same_new hD, upd_same⟩ ?_ ?_⟩
        · rintro i c H' hc ⟨sD, gD⟩
          refine ⟨rfl, _, rfl, c, letters, rfl, rfl, _, gD, ?_, ?_, ?_⟩
          · rw [List.length_map, List.length_map]
            exact Nat.lt_of_le_of_lt (List.length_take_le' _ _) (Nat.lt_of_le_of_lt (show z.cps.toList.length ≤ 8 from h2) (by decide))
          · exact fun b o hb => by
              rw [upd_ne (ne_of_none hb hD)]
              exact sD b o hb
          · have hc2 : z.cps.toList[i]? = some c := by rw [Array.getElem?_toList]; exact hc
            rw [upd_same, List.take_add_one, hc2, List.map_append, List.map_append]
            rfl
        · rintro H' ⟨sD, gD⟩
          have e2 : z.cps.toList.take z.cps.size = z.cps.toList := List.take_of_length_le (Nat.le_of_eq (by simp))
          rw [e2] at gD
          refine ⟨D, _, rfl, SqL.of gD, ?_⟩
          rw [all_bl]
          exact k H' sD
    | _ => exact k H fun _ _ q => q
end
/-- what Item.__init__ does: the fields stand, or BadItem goes out with the part -/
def spItem (K : Fg) : Sp := fun vs H Q E => ∃ (a dx : Addr) (x y : V) (t u : String), vs = [.ref a, x, y] ∧ H a = some (.ins (ga K "Item") dx []) ∧ Bv H x t ∧ Bv H y u ∧ (∀ z, y = .str z → z.length ≤ 1000) ∧
  (rankOk x = true → nameOk y = true → ∀ H', But a H H' → H' a = some (.ins (ga K "Item") dx [("rank", x), ("name", y)]) → Q .non H') ∧
  (rankOk x = false ∨ nameOk y = false → ∀ (d : Addr) (H' : Hp), Same H H' → H' d = some (.xd [("part", .str (if rankOk x = true then "name" else "rank"))]) → E (.ref (ga K "BadItem")) (some d) H')
theorem bad_out {H : Hp} {C : Addr} {z : Str} {Q : XK} {E : XK} (k : ∀ (d : Addr) (H' : Hp), Same H H' → H' d = some (.xd [("part", .str z)]) → Q (.ref C) (some d) H') :
    ([V.str z] : List V).length ≤ 1000 ∧ ∀ a, H a = none → spIni C "part" (.ref a :: (([V.str z] : List V) ++ [])) (upd H a (exo a C none)) (fun v H2 => v = .non ∧ ∃ (d : Addr) (fs : List (Str × V)), H2 a = some (exo a C (some d)) ∧ H2 d = some (exd d fs) ∧ H d = none ∧ Q (.ref C) (some d) (upd (del H2 a) d (.xd fs))) E := by
  refine ⟨(by show 1 ≤ 1000; decide), fun a ha => ⟨a, .str z, rfl, upd_same, fun d H' hd hda e1 e2 e3 => ?_⟩⟩
  rw [upd_ne hda] at hd
  refine ⟨rfl, d, _, e1, e2, hd, k d _ (fun b o hb => ?_) upd_same⟩
  have hba : b ≠ a := ne_of_none hb ha
  rw [upd_ne (ne_of_none hb hd), del_ne hba]
  exact e3 b o (by rw [upd_ne hba]; exact hb) hba
abbrev s_item : Stmt := inClass (topS 17) 0
theorem sc_item : FnScope ["self", "rank", "name"] ["self", "rank", "name"] (defScope s_item) := ⟨rfl, rfl, rfl, by decide +kernel, rfl, by decide +kernel, by decide +kernel⟩
abbrev FnI (K : Fg) (f : Addr) (fd : FuncData) : Prop := FunD K "__init__" "Item.__init__" (defArgs s_item) (defBody s_item) (defScope s_item) [.str ""] [] f fd
section
variable {P : Program} {w : World} {K : Fg} {mg : Str → Option Value} {base : Heap}
theorem ok_item {f fR fL fB : Addr} {fd fdR fdL fdB fdN : FuncData} {fN : Addr} (F : FnI K f fd) (FR : FnP K "is_rank" "is_rank" s_rnk fR fdR) (gR : mg "is_rank" = some (.ref fR)) (FN : FnP K "is_number" "is_number" s_num fN fdN) (gN : mg "is_number" = some (.ref fN))
    (FL : FnP K "is_lettered" "is_lettered" s_let fL fdL) (gL : mg "is_lettered" = some (.ref fL)) (FB : FnP K "__init__" "BadItem.__init__" (s_err 5) (ma K (ga K "BadItem") "__init__") fdB) (T : Txt K mg) : FnOk P w K mg base (L2.CX P w) 3 f fd ["self", "rank", "name"] (spItem K) := by
  have gB : mg "BadItem" = some (.ref (ga K "BadItem")) := T.cl (by decide +kernel)
  have G_rnk : FnOk P w K mg base CX0 2 fR fdR ["value"] spRank := ok_rnk FR FN gN T
  have G_let : FnOk P w K mg base CX0 1 fL fdL ["value"] spLet := ok_let FL T
  have G_bad : FnOk P w K mg base CX0 1 _ fdB ["self", "part"] (spIni (ga K "BadItem") "part") := ok_BadItem FB T
  have b_rnk : Binds K fdR ["value"] [] := FR.bindsN fun _ _ _ _ _ _ us hl => match us, hl with | [_], _ => rfl
  have b_let : Binds K fdL ["value"] [] := FL.bindsN fun _ _ _ _ _ _ us hl => match us, hl with | [_], _ => rfl
  have b_bad : Binds K fdB ["self", "part"] [] := FB.bindsN fun _ _ _ _ _ _ us hl => match us, hl with | [_, _], _ => rfl
  have mB : (("BadItem", 5, "part") : Str × Nat × Str) ∈ errs := by decide +kernel
  obtain ⟨iB, tB⟩ := T.ini mB
  refine F.ok sc_item (fun vs H Q E h => ?_) (fun cdv A outer s H vs Q E hr h => ?_)
  · obtain ⟨a, dx, x, y, t, u, rfl, _⟩ := h
    rfl
  · obtain ⟨a, dx, x, y, t, u, rfl, ha, bx, bY, hz, kn, kx⟩ := h
    refine ⟨_, (pss_cons (ps_if (pt_not (pt_val (pe_call G_rnk (hr.mono (by decide)) rfl gR FR.kp b_rnk .nil pass0 (pa_cons (pv 1) pa_nil)))) (pss_one (ps_raise rfl (takes_of rfl rfl rfl rfl) (pmk_oex (T.xc mB).ox iB tB G_bad (hr.mono (by decide)) b_bad .nil pass0 rfl gB (pa_cons pe_str pa_nil)))) pss_nil)
    (pss_cons (ps_if (pt_not (pt_val (pe_call G_let (hr.mono (by decide)) rfl gL FL.kp b_let .nil pass0 (pa_cons (pv 2) pa_nil)))) (pss_one (ps_raise rfl (takes_of rfl rfl rfl rfl) (pmk_oex (T.xc mB).ox iB tB G_bad (hr.mono (by decide)) b_bad .nil pass0 rfl gB (pa_cons pe_str pa_nil)))) pss_nil)
    (pss_cons (ps_fld (pv 0) (pv 1) rfl)
    (pss_one (ps_fld (pv 0) (pv 2) rfl))))), ?_⟩
    refine ⟨_, rfl, x, t, rfl, bx, _, rfl, ?_⟩
    cases hx : rankOk x with
    | false =>
      rw [hx] at kx
      exact bad_out (kx (.inl rfl))
    | true =>
      rw [hx] at kx kn
      refine ⟨_, rfl, y, u, rfl, bY, hz, fun H1 s1 => ⟨_, rfl, ?_⟩⟩
      cases hy : nameOk y with
      | false =>
        rw [hy] at kx
        exact bad_out fun d H' s2 hd => kx (.inr rfl) d H' (s1.trans s2) hd
      | true =>
        rw [hy] at kn
        refine ⟨_, rfl, _, rfl, a, _, dx, _, rfl, s1 _ _ ha, T.cls, T.na (by decide +kernel), (by show 0 < 1000; decide), ?_⟩
        refine ⟨_, rfl, _, rfl, a, _, dx, _, rfl, upd_same, T.cls, T.na (by decide +kernel), (by show 1 < 1000; decide), ?_⟩
        exact kn rfl rfl _ (((But.of s1).trans But.upd).trans But.upd) upd_same
end
end K09
namespace K09
open PySem PySem.Spec PyProof.Rows L2 He Tw
theorem It.ty {K : Fg} {mg : Str → Option Value} {H : Hp} (T : Txt K mg) {a : Addr} {i : Int} {z : Str} (h : It K H a i z) : TyX K H (.ref a) (.ref (ga K "Item")) := by
  obtain ⟨dx, h⟩ := h
  exact .base (.ins h T.cls (T.ob (by decide +kernel)).2 T.xo.hn T.xo.ht (T.ob (by decide +kernel)).1)
theorem bv_kind {H : Hp} {x : V} {T : String} (h : Bv H x T) : T ∈ kinds := by
  cases h <;> decide
/-- what may stand for an item: an item, a rank, or anything plain that is neither -/
inductive Vv (K : Fg) (H : Hp) : V → Option (Int × Str) → Prop where
  | item {a : Addr} {i : Int} {z : Str} (h : It K H a i z) : Vv K H (.ref a) (some (i, z))
  | int {i : Int} (h : rankOk (.int i) = true) : Vv K H (.int i) (some (i, ""))
  | bad {x : V} {t : String} (h : Bv H x t) (b : rankOk x = false) : Vv K H x none
theorem Vv.same {K : Fg} {H H' : Hp} {x : V} {o : Option (Int × Str)} (e : Same H H') (h : Vv K H x o) : Vv K H' x o := by
  cases h with
  | item h => exact .item (h.same e)
  | int h => exact .int h
  | bad h b => exact .bad (h.same e) b
/-- references to items of these ranks and names -/
def Its (K : Fg) (H : Hp) (ys : List V) (ps : List (Int × Str)) : Prop := Paired (fun y p => ∃ a, y = V.ref a ∧ It K H a p.1 p.2) ys ps
theorem Its.same {K : Fg} {H H' : Hp} (e : Same H H') : ∀ {ys : List V} {ps : List (Int × Str)}, Its K H ys ps → Its K H' ys ps
  | _, _, .nil => .nil
  | _, _, .cons ⟨a, h1, h2⟩ t => .cons ⟨a, h1, h2.same e⟩ (Its.same e t)
theorem Its.snoc {K : Fg} {H : Hp} : ∀ {ys : List V} {ps : List (Int × Str)} {a : Addr} {p : Int × Str}, Its K H ys ps → It K H a p.1 p.2 → Its K H (ys ++ [.ref a]) (ps ++ [p])
  | _, _, _, _, .nil, h => .cons ⟨_, rfl, h⟩ .nil
  | _, _, _, _, .cons x t, h => .cons x (Its.snoc t h)
/-- a row with these items -/
def RowAt (K : Fg) (H : Hp) (a : Addr) (xs : List V) : Prop := ∃ dx t, H a = some (.ins (ga K "Row") dx [("state", .ref t)]) ∧ H t = some (.tup xs)
/-- what a row can be made of -/
def Seq (K : Fg) (H : Hp) (q : Addr) (xs : List V) : Prop := SqL K H q xs ∨ SqT K H q xs ∨ RowAt K H q xs
def spAs (K : Fg) : Sp := fun vs H Q E => ∃ (q : Addr) (xs : List V) (os : List (Option (Int × Str))), vs = [.ref q] ∧ Seq K H q xs ∧ xs.length ≤ 900 ∧ os.length = xs.length ∧ (∀ (i : Nat) (x : V), xs[i]? = some x → ∃ o : Option (Int × Str), os[i]? = some o ∧ Vv K H x o) ∧
  (∀ (ps : List (Int × Str)) (l : Addr) (H' : Hp) (ys : List V), os = ps.map some → H l = none → Same H H' → H' l = some (.lst ys) → Its K H' ys ps → Q (.ref l) H') ∧
  (∀ (n : Nat) (ps : List (Int × Str)) (d : Addr) (H' : Hp), ps.length = n → (∀ (m : Nat) (p : Int × Str), ps[m]? = some p → os[m]? = some (some p)) → os[n]? = some none → Same H H' → H' d = some (.xd [("part", .int (n : Nat))]) → E (.ref (ga K "BadItem")) (some d) H')
theorem err_out {H : Hp} {C : Addr} {f : Str} {v : V} {Q : XK} {E : XK} (k : ∀ (d : Addr) (H' : Hp), Same H H' → H' d = some (.xd [(f, v)]) → Q (.ref C) (some d) H') :
    ([v] : List V).length ≤ 1000 ∧ ∀ a, H a = none → spIni C f (.ref a :: (([v] : List V) ++ [])) (upd H a (exo a C none)) (fun u H2 => u = .non ∧ ∃ (d : Addr) (fs : List (Str × V)), H2 a = some (exo a C (some d)) ∧ H2 d = some (exd d fs) ∧ H d = none ∧ Q (.ref C) (some d) (upd (del H2 a) d (.xd fs))) E := by
  refine ⟨(by show 1 ≤ 1000; decide), fun a ha => ⟨a, v, rfl, upd_same, fun d H' hd hda e1 e2 e3 => ?_⟩⟩
  rw [upd_ne hda] at hd
  refine ⟨rfl, d, _, e1, e2, hd, k d _ (fun b o hb => ?_) upd_same⟩
  have hba : b ≠ a := ne_of_none hb ha
  rw [upd_ne (ne_of_none hb hd), del_ne hba]
  exact e3 b o (by rw [upd_ne hba]; exact hb) hba
abbrev s_iter : Stmt := inClass (topS 27) 4
theorem sc_iter : FnScope ["self"] ["self"] (defScope s_iter) := ⟨rfl, rfl, rfl, by decide +kernel, rfl, by decide +kernel, by decide +kernel⟩
section
variable {P : Program} {w : World} {K : Fg} {mg : Str → Option Value} {base : Heap}
theorem ok_iter {f : Addr} {fd : FuncData} (F : FnP K "__iter__" "Row.__iter__" s_iter f fd) (T : Txt K mg) : FnN P w K mg base CX0 1 f fd ["self"] (spIter (ga K "Row") "state") := by
  have zit : mg "iter" = none := T.bl (by decide +kernel)
  refine F.okN sc_iter (fun n vs H Q E h => ?_) (fun cdv A outer s H vs Q E hr h => ?_)
  · obtain ⟨a, dx, t, fs, zs, rfl, _⟩ := h
    rfl
  · obtain ⟨a, dx, t, fs, zs, rfl, ha, hl, ht, k⟩ := h
    refine ⟨_, (pss_one (ps_ret (pe_callB call_iterT (by rfl) zit (by decide +kernel) (pa_cons (pe_fld (pv 0) rfl) pa_nil)))), ?_⟩
    exact ⟨_, rfl, a, _, dx, _, _, rfl, ha, T.clsR, T.naR, hl, t, zs, rfl, SqT.of ht, fun it H' h0 hn sm e => k it H' h0 hn sm e⟩
abbrev s_as : Stmt := topS 19
abbrev N_as : List Str := ["values", "found", "k", "value"]
theorem sc_as : FnScope N_as ["values"] (defScope s_as) := ⟨rfl, rfl, rfl, by decide +kernel, rfl, by decide +kernel, by decide +kernel⟩
/-- the item's class, its def, all ways it is called -/
structure Itm (P : Program) (w : World) (K : Fg) (mg : Str → Option Value) (base : Heap) (fd : FuncData) (d2 : List Value) : Prop where
  ok : FnOk P w K mg base (L2.CX P w) 3 (ma K (ga K "Item") "__init__") fd ["self", "rank", "name"] (spItem K)
  b : Binds K fd ["self", "rank", "name"] []
  r2 : Vals [.str ""] d2
  b2 : Binds K fd ["self", "rank", "name"] d2
/-- the row's __iter__ -/
structure Wlk (P : Program) (w : World) (K : Fg) (mg : Str → Option Value) (base : Heap) (fd : FuncData) : Prop where
  ok : FnN P w K mg base CX0 1 (ma K (ga K "Row") "__iter__") fd ["self"] (spIter (ga K "Row") "state")
  b : Binds K fd ["self"] []
theorem seq_same {K : Fg} {H H' : Hp} {q : Addr} {xs : List V} (e : Same H H') (h : Seq K H q xs) : Seq K H' q xs := by
  rcases h with h | h | ⟨dx, t, h1, h2⟩
  · exact .inl (e.seq h)
  · exact .inr (.inl (sqT_same e h))
  · exact .inr (.inr ⟨dx, t, e _ _ h1, e _ _ h2⟩)
/-- an iterator that is there -/
def iAt (J : L2.It) : TI := fun _ H R => R J H
theorem enumA_for {K : Fg} {H H1 : Hp} {ta : TA} {g : TG} {tb : TS} {D : Ends} {σ : L2.St} {q : Addr} {xs : List V} (ht : ∀ R : List V → Hp → Prop, R [.ref q] H1 → ta σ H1 R) (s1 : Same H H1) (hS : Seq K H q xs)
    (h : ∀ (G : Hp → List V → Prop) (H2 : Hp), Same H1 H2 → (∀ H', Same H H' → G H' xs) → tFor (iAt (IteG G)) g tb D σ H2) : tFor (iEnumA K (ga K "Row") "state" ta) g tb D σ H1 := by
  have rf : Same H1 H1 := fun _ _ e => e
  refine ht _ ?_
  rcases hS with g | g | ⟨dx, t, g1, g2⟩
  · exact ⟨q, rfl, .inl ⟨⟨xs, s1.seq g⟩, h _ _ rf fun H' e => e.seq g⟩⟩
  · exact ⟨q, rfl, .inr (.inl ⟨⟨xs, sqT_same s1 g⟩, h _ _ rf fun H' e => sqT_same e g⟩)⟩
  · exact ⟨q, rfl, .inr (.inr ⟨dx, t, _, xs, s1 _ _ g1, rfl, s1 _ _ g2, fun H2 s2 => h _ _ s2 fun H' e => SqT.of (e _ _ g2)⟩)⟩
theorem same_but {H H1 H2 : Hp} {a : Addr} (s : Same H H1) (b : But a H1 H2) (h : H a = none) : Same H H2 := fun c o e => b c o (s c o e) (ne_of_none e h)
theorem same_made {H : Hp} {a dx : Addr} {o u : HO} (hd : H dx = none) (ha : H a = none) (hda : dx ≠ a) : Same H (upd (upd H dx o) a u) := (same_new hd).trans (same_new (by rw [upd_ne hda.symm]; exact ha))
theorem item_mk {K : Fg} {H : Hp} {i : Int} {z : Str} {R : VK} {E : XK} {x dx : Addr} (hx : H x = none) (hd : H dx = none) (hne : dx ≠ x) (hi : rankOk (.int i) = true) (tz : nameOk (.str z) = true) (lz : z.length ≤ 1000) (k : ∀ H' : Hp, It K H' x i z → Same H H' → R .non H') :
    spItem K [.ref x, .int i, .str z] (upd (upd H dx (.own x)) x (.ins (ga K "Item") dx [])) R E := by
  refine ⟨x, dx, .int i, .str z, "int", "str", rfl, upd_same, .int i, .str z, fun y e => ?_, fun _ _ H' b e => k H' ⟨dx, e⟩ (same_but (same_made hd hx hne) b hx), fun h => ?_⟩
  · cases e
    exact lz
  · rw [hi, tz] at h
    rcases h with h | h <;> cases h
theorem it_upd {K : Fg} {H : Hp} {l a : Addr} {us : List V} {o : HO} {i : Int} {z : Str} (hl : H l = some (.lst us)) (h : It K H a i z) : It K (upd H l o) a i z := by
  obtain ⟨dx, h⟩ := h
  refine ⟨dx, ?_⟩
  rw [upd_ne (fun e => by
    rw [e, hl] at h
    cases h)]
  exact h
theorem its_upd {K : Fg} {H : Hp} {l : Addr} {us : List V} {o : HO} (hl : H l = some (.lst us)) : ∀ {ys : List V} {ps : List (Int × Str)}, Its K H ys ps → Its K (upd H l o) ys ps
  | _, _, .nil => .nil
  | _, _, .cons ⟨a, h1, h2⟩ t => .cons ⟨a, h1, it_upd hl h2⟩ (its_upd hl t)
theorem same_upd {H H' : Hp} {l : Addr} {o : HO} (s : Same H H') (h : H l = none) : Same H (upd H' l o) := fun b u e => by
  rw [upd_ne (ne_of_none e h)]
  exact s b u e
theorem ok_as {f fR fN : Addr} {fd fdR fdN fdB fdI fdW : FuncData} {d2 : List Value} (F : FnP K "as_items" "as_items" s_as f fd) (FR : FnP K "is_rank" "is_rank" s_rnk fR fdR) (gR : mg "is_rank" = some (.ref fR)) (FN : FnP K "is_number" "is_number" s_num fN fdN) (gN : mg "is_number" = some (.ref fN))
    (FB : FnP K "__init__" "BadItem.__init__" (s_err 5) (ma K (ga K "BadItem") "__init__") fdB) (I : Itm P w K mg base fdI d2) (W : Wlk P w K mg base fdW) (T : Txt K mg) : FnOk P w K mg base (L2.CX P w) 5 f fd ["values"] (spAs K) := by
  have zisi : mg "isinstance" = none := T.bl (by decide +kernel)
  have zen : mg "enumerate" = none := T.bl (by decide +kernel)
  have gB : mg "BadItem" = some (.ref (ga K "BadItem")) := T.cl (by decide +kernel)
  have gI : mg "Item" = some (.ref (ga K "Item")) := T.cl (by decide +kernel)
  have mB : (("BadItem", 5, "part") : Str × Nat × Str) ∈ errs := by decide +kernel
  obtain ⟨iB, tB⟩ := T.ini mB
  have G_rnk : FnOk P w K mg base CX0 2 fR fdR ["value"] spRank := ok_rnk FR FN gN T
  have G_bad : FnOk P w K mg base CX0 1 _ fdB ["self", "part"] (spIni (ga K "BadItem") "part") := ok_BadItem FB T
  have b_rnk : Binds K fdR ["value"] [] := FR.bindsN fun _ _ _ _ _ _ us hl => match us, hl with | [_], _ => rfl
  have b_bad : Binds K fdB ["self", "part"] [] := FB.bindsN fun _ _ _ _ _ _ us hl => match us, hl with | [_, _], _ => rfl
  have mI := T.mtR (m := "__iter__") (by decide +kernel)
  refine F.ok sc_as (fun vs H Q E h => ?_) (fun cdv A outer s H vs Q E hr h => ?_)
  · obtain ⟨q, xs, os, rfl, _⟩ := h
    rfl
  · obtain ⟨q, xs, os, rfl, hS, hn, ho, hv, kg, kb⟩ := h
    refine ⟨_, (pss_cons (ps_set (i := 1) sc_as.nd rfl (Or.inl rfl) (pe_lstN pa_nil))
    (pss_cons (ps_for (passes_of rfl) rfl (pi_enumA mI.at_ mI.fn W.ok (hr.mono (by decide)) W.b pass0 (E := E0) (by rfl) zen (pa_cons (pv 0) pa_nil)) (pg_tup (by rfl) (pgs_cons (pg_name (i := 2) sc_as.nd rfl (Or.inl rfl)) (pgs_cons (pg_name (i := 3) sc_as.nd rfl (Or.inl rfl)) pgs_nil)))
    (pss_one (ps_if (pt_val (pe_callB call_isA (by rfl) zisi (by decide +kernel) (pa_cons (pv 3) (pa_cons (pe_glob (v := .ref (ga K "Item")) rfl gI rfl) pa_nil)))) (pss_one (ps_expr (pe_bm PySem.F.plainAttrs_list PySem.F.slot_list_append PySem.F.type_list_append mt_append (pv 1) (pa_cons (pv 3) pa_nil)))) (pss_one (ps_if (pt_val (pe_call G_rnk (hr.mono (by decide)) rfl gR FR.kp b_rnk .nil pass0 (pa_cons (pv 3) pa_nil))) (pss_one (ps_expr (pe_bm PySem.F.plainAttrs_list PySem.F.slot_list_append PySem.F.type_list_append mt_append (pv 1) (pa_cons (pe_make (E := E0) T.mkI I.ok (hr.mono (by decide)) rfl gI I.b2 I.r2 passL (pa_cons (pv 3) pa_nil)) pa_nil)))) (pss_one (ps_raise rfl (takes_of rfl rfl rfl rfl) (pmk_oex (T.xc mB).ox iB tB G_bad (hr.mono (by decide)) b_bad .nil pass0 rfl gB (pa_cons (pv 2) pa_nil)))))))))
    (pss_one (ps_ret (pv 1))))), ?_⟩
    refine ⟨sz1000 (Nat.zero_le _), fun l H1 f1 m1 s1 g1 => ?_⟩
    dsimp only [gName]
    unfold tSeq
    refine enumA_for (fun R r => ⟨_, rfl, r⟩) s1 hS fun G H2 s2 still => for_enum (xs := xs) (fun i σ H' => ∃ (kv vv : Option V) (ys : List V) (ps : List (Int × Str)), σ = [some (.ref q), some (.ref l), kv, vv] ∧ Same H H' ∧ H' l = some (.lst ys) ∧ Its K H' ys ps ∧ ps.length = i ∧ ∀ (m : Nat) (p : Int × Str), ps[m]? = some p → os[m]? = some (some p))
      ⟨none, none, [], [], rfl, s1.trans s2, s2 _ _ g1, .nil, rfl, fun m p hp => nomatch hp⟩ (fun i σ H' _ ⟨_, _, _, _, _, sm, _⟩ => still H' sm) ?_ ?_
    · rintro i x t σ H3 H4 hx ⟨kv, vv, ys, ps, rfl, sm, gl, its, hl, hp⟩ ht s4 et
      obtain ⟨o, eo, hv3⟩ := hv i x hx
      have sm4 := sm.trans s4
      have hv4 := hv3.same sm4
      have gl4 := s4 _ _ gl
      have lt : ys.length < sizeLine := by
        have h1 : ys.length = ps.length := Paired.length its
        have h2 : i < xs.length := (List.getElem?_eq_some_iff.mp hx).1
        exact Nat.lt_of_lt_of_le (show ys.length < 1000 by omega) (by decide)
      have snoc : ∀ {p : Int × Str}, o = some p → ∀ (m : Nat) (p' : Int × Str), (ps ++ [p])[m]? = some p' → os[m]? = some (some p') := fun {p} e m p' hm => by
        by_cases h : m < ps.length
        · rw [List.getElem?_append_left h] at hm
          exact hp m p' hm
        · have h2 : m = ps.length := by
            have := (List.getElem?_eq_some_iff.mp hm).1
            rw [List.length_append, List.length_singleton] at this
            omega
          subst h2
          rw [List.getElem?_append_right (Nat.le_refl _), Nat.sub_self] at hm
          cases hm
          rw [hl, eo, e]
      refine ⟨t, _, rfl, SqT.of et, rfl, ?_⟩
      refine ⟨_, _, rfl, _, _, rfl, rfl, ?_⟩
      cases hv4 with
      | @item a j z h =>
        refine ⟨_, rfl, .ref a, .ref (ga K "Item"), _, _, _, rfl, .own _, .inl (h.ty T), T.kitII, _, rfl, ?_⟩
        refine ⟨_, rfl, .inl ⟨rfl, _, SqL.of gl4⟩, _, rfl, l, _, _, rfl, rfl, gl4, lt, ?_⟩
        exact ⟨_, _, ys ++ [.ref a], ps ++ [(j, z)], rfl, same_upd sm4 f1, upd_same, Its.snoc (its_upd gl4 (its.same s4)) (it_upd gl4 h), by rw [List.length_append, hl]; rfl, snoc rfl⟩
      | @int j h =>
        refine ⟨_, rfl, .int j, .ref (ga K "Item"), .type "int", _, _, rfl, .own _, .inl (.base (.int _)), (T.kind (by decide)).1, _, rfl, ?_⟩
        refine ⟨_, rfl, .int j, "int", rfl, .int j, _, rfl, ?_⟩
        rw [h]
        refine ⟨_, rfl, .inl ⟨rfl, _, SqL.of gl4⟩, _, rfl, fun x dx hx1 hd1 hne1 => item_mk hx1 hd1 hne1 h (by decide +kernel) (by decide) fun H5 I5 s5 => ⟨rfl, ?_⟩⟩
        have gl5 := s5 _ _ gl4
        refine ⟨l, _, _, rfl, rfl, gl5, lt, ?_⟩
        exact ⟨_, _, ys ++ [.ref x], ps ++ [(j, ("" : Str))], rfl, same_upd (sm4.trans s5) f1, upd_same, Its.snoc (its_upd gl5 ((its.same s4).same s5)) (it_upd gl5 I5), by rw [List.length_append, hl]; rfl, snoc rfl⟩
      | @bad x t' b nb =>
        refine ⟨_, rfl, x, .ref (ga K "Item"), .type t', _, _, rfl, .own _, .inl b.ty, (T.kind (bv_kind b)).1, _, rfl, ?_⟩
        refine ⟨_, rfl, x, t', rfl, b, _, rfl, ?_⟩
        rw [nb]
        refine ⟨_, rfl, ?_⟩
        exact err_out fun d H5 s5 e5 => kb i ps d H5 hl hp eo (sm4.trans s5) e5
    · rintro σ H3 ⟨kv, vv, ys, ps, rfl, sm, gl, its, hl, hp⟩
      refine ⟨_, rfl, kg ps l H3 ys ?_ f1 sm gl its⟩
      refine List.ext_getElem? fun m => ?_
      by_cases h : m < ps.length
      · rw [List.getElem?_map, List.getElem?_eq_getElem h]
        exact hp m _ (List.getElem?_eq_getElem h)
      · rw [List.getElem?_eq_none (by omega), List.getElem?_eq_none (by rw [List.length_map]; omega)]
end
end K09
namespace K09
open PySem PySem.Spec PyProof.Rows L2 He Tw
def spTwo (K : Fg) (f : Int → Str → Int → Str → Bool) : Sp := fun vs H Q _ => ∃ (a b : Addr) (i j : Int) (z u : Str), vs = [.ref a, .ref b] ∧ It K H a i z ∧ It K H b j u ∧ Q (.bl (f i z j u)) H
def fBefore (i : Int) (_ : Str) (j : Int) (_ : Str) : Bool := decide (i < j)
/-- in order up to n pairs -/
def Up (ps : List (Int × Str)) (n : Nat) : Prop := ∀ (m : Nat) (a b : Int × Str), m < n → ps[m]? = some a → ps[m + 1]? = some b → a.1 ≤ b.1
def spNeed (K : Fg) : Sp := fun vs H Q E => ∃ (l : Addr) (most : Int) (ys : List V) (ps : List (Int × Str)), vs = [.ref l, .int most] ∧ H l = some (.lst ys) ∧ Its K H ys ps ∧ ys.length ≤ 900 ∧
  (Up ps ps.length → (ps.length : Int) ≤ most → Q .non H) ∧
  (∀ (k : Nat) (a b : Int × Str), ps[k]? = some a → ps[k + 1]? = some b → b.1 < a.1 → Up ps k → ∀ (d : Addr) (H' : Hp), Same H H' → H' d = some (.xd [("at", .int (1 + (k : Int)))]) → E (.ref (ga K "Disordered")) (some d) H') ∧
  (Up ps ps.length → most < (ps.length : Int) → ∀ (d : Addr) (H' : Hp), Same H H' → H' d = some (.xd [("most", .int most)]) → E (.ref (ga K "TooMany")) (some d) H')
theorem its_len {K : Fg} {H : Hp} {ys : List V} {ps : List (Int × Str)} (h : Its K H ys ps) : ys.length = ps.length := Paired.length h
theorem its_at {K : Fg} {H : Hp} : ∀ {ys : List V} {ps : List (Int × Str)} {i : Nat} {p : Int × Str}, Its K H ys ps → ps[i]? = some p → ∃ a, ys[i]? = some (V.ref a) ∧ It K H a p.1 p.2
  | _, _, 0, _, .cons ⟨a, h1, h2⟩ _, e => by
    cases e
    exact ⟨a, congrArg some h1, h2⟩
  | _, _, n + 1, _, .cons _ t, e => its_at (i := n) (show Its _ _ _ _ from t) e
abbrev s_bef : Stmt := inClass (topS 17) 3
theorem sc_bef : FnScope ["self", "other"] ["self", "other"] (defScope s_bef) := ⟨rfl, rfl, rfl, by decide +kernel, rfl, by decide +kernel, by decide +kernel⟩
abbrev s_need : Stmt := topS 20
abbrev N_need : List Str := ["items", "most", "k"]
theorem sc_need : FnScope N_need ["items", "most"] (defScope s_need) := ⟨rfl, rfl, rfl, by decide +kernel, rfl, by decide +kernel, by decide +kernel⟩
section
variable {P : Program} {w : World} {K : Fg} {mg : Str → Option Value} {base : Heap}
theorem ok_bef {f : Addr} {fd : FuncData} (F : FnP K "before" "Item.before" s_bef f fd) (T : Txt K mg) : FnOk P w K mg base CX0 1 f fd ["self", "other"] (spTwo K fBefore) := by
  refine F.ok sc_bef (fun vs H Q E h => ?_) (fun cdv A outer s H vs Q E hr h => ?_)
  · obtain ⟨a, b, i, j, z, u, rfl, _⟩ := h
    rfl
  · obtain ⟨a, b, i, j, z, u, rfl, ⟨dx, ha⟩, ⟨db, hb⟩, k⟩ := h
    refine ⟨_, PSs.nox (pss_one (ps_ret (pe_cmpR op_lt (pe_fld (pv 0) rfl) (pe_fld (pv 1) rfl) (nomark _)))), ?_⟩
    exact ⟨_, rfl, a, _, dx, _, _, rfl, ha, T.cls, T.na (by decide +kernel), rfl, _, rfl, b, _, db, _, _, rfl, hb, T.cls, T.na (by decide +kernel), rfl, _, _, rfl, rfl, k⟩
theorem ok_need {f : Addr} {fd fdB fdD fdM : FuncData} (F : FnP K "need_row" "need_row" s_need f fd) (FB : FnP K "before" "Item.before" s_bef (ma K (ga K "Item") "before") fdB)
    (FD : FnP K "__init__" "Disordered.__init__" (s_err 7) (ma K (ga K "Disordered") "__init__") fdD) (FM : FnP K "__init__" "TooMany.__init__" (s_err 8) (ma K (ga K "TooMany") "__init__") fdM) (T : Txt K mg) : FnOk P w K mg base (L2.CX P w) 3 f fd ["items", "most"] (spNeed K) := by
  have zr : mg "range" = none := T.bl (by decide +kernel)
  have zlen : mg "len" = none := T.bl (by decide +kernel)
  have gD : mg "Disordered" = some (.ref (ga K "Disordered")) := T.cl (by decide +kernel)
  have gM : mg "TooMany" = some (.ref (ga K "TooMany")) := T.cl (by decide +kernel)
  have mD : (("Disordered", 7, "at") : Str × Nat × Str) ∈ errs := by decide +kernel
  have mM : (("TooMany", 8, "most") : Str × Nat × Str) ∈ errs := by decide +kernel
  obtain ⟨iD, tD⟩ := T.ini mD
  obtain ⟨iM, tM⟩ := T.ini mM
  have G_bef : FnOk P w K mg base CX0 1 _ fdB ["self", "other"] (spTwo K fBefore) := ok_bef FB T
  have G_dis : FnOk P w K mg base CX0 1 _ fdD ["self", "at"] (spIni (ga K "Disordered") "at") := ok_Disordered FD T
  have G_many : FnOk P w K mg base CX0 1 _ fdM ["self", "most"] (spIni (ga K "TooMany") "most") := ok_TooMany FM T
  have b_bef : Binds K fdB ["self", "other"] [] := FB.bindsN fun _ _ _ _ _ _ us hl => match us, hl with | [_, _], _ => rfl
  have b_dis : Binds K fdD ["self", "at"] [] := FD.bindsN fun _ _ _ _ _ _ us hl => match us, hl with | [_, _], _ => rfl
  have b_many : Binds K fdM ["self", "most"] [] := FM.bindsN fun _ _ _ _ _ _ us hl => match us, hl with | [_, _], _ => rfl
  refine F.ok sc_need (fun vs H Q E h => ?_) (fun cdv A outer s H vs Q E hr h => ?_)
  · obtain ⟨l, most, ys, ps, rfl, _⟩ := h
    rfl
  · obtain ⟨l, most, ys, ps, rfl, hl, its, hn, kg, kd, km⟩ := h
    have ln := its_len its
    refine ⟨_, (pss_cons (ps_for (passes_of rfl) rfl (pi_range2 rfl zr (pa_cons pe_int (pa_cons (pe_callB call_len (by rfl) zlen (by decide +kernel) (pa_cons (pv 0) pa_nil)) pa_nil))) (pg_name (i := 2) sc_need.nd rfl (Or.inl rfl))
    (pss_one (ps_if (pt_val (pe_meth (E := E0) (pe_ix ix_list (pv 0) (pv 2) (fun _ _ => rfl)) T.cls T.mtB G_bef (hr.mono (by decide)) b_bef .nil pass0 (pa_cons (pe_ix ix_list (pv 0) (pe_op op_sub (pv 2) pe_int) (fun _ _ => rfl)) pa_nil))) (pss_one (ps_raise rfl (takes_of rfl rfl rfl rfl) (pmk_oex (T.xc mD).ox iD tD G_dis (hr.mono (by decide)) b_dis .nil pass0 rfl gD (pa_cons (pv 2) pa_nil)))) pss_nil)))
    (pss_one (ps_if (pt_cmpR op_gt (pe_callB call_len (by rfl) zlen (by decide +kernel) (pa_cons (pv 0) pa_nil)) (pv 1) (nomark _)) (pss_one (ps_raise rfl (takes_of rfl rfl rfl rfl) (pmk_oex (T.xc mM).ox iM tM G_many (hr.mono (by decide)) b_many .nil pass0 rfl gM (pa_cons (pv 1) pa_nil)))) pss_nil))), ?_⟩
    have len900 : ys.length ≤ sizeLine := Nat.le_trans hn (by decide)
    refine ⟨_, rfl, _, _, rfl, .inl ⟨_, SqL.of hl, rfl⟩, 1, (ys.length : Int), rfl, ⟨by decide, by decide, by omega, by omega⟩, for_range (lo := 1) (n := ((ys.length : Int) - 1).toNat) (fun i σ H' => H' = H ∧ (∃ kv : Option V, σ = [some (.ref l), some (.int most), kv]) ∧ Up ps i) ⟨rfl, ⟨none, rfl⟩, fun m a b h => absurd h (Nat.not_lt_zero _)⟩ ?_ ?_⟩
    · rintro i σ H1 hi ⟨rfl, ⟨kv, rfl⟩, up⟩
      have h1 : i < ps.length := by omega
      have h2 : i + 1 < ps.length := by omega
      obtain ⟨a, ea, Ia⟩ := its_at its (List.getElem?_eq_getElem h2)
      obtain ⟨b, eb, Ib⟩ := its_at its (List.getElem?_eq_getElem h1)
      obtain ⟨dx, hA⟩ := id Ia
      refine ⟨_, rfl, _, rfl, l, _, _, .ref a, rfl, rfl, SqL.of hl, atI_of (by omega) (by rw [show (1 + (i : Int)).toNat = i + 1 by omega]; exact ea), ?_⟩
      refine ⟨a, dx, _, rfl, hA, rfl, _, rfl, _, rfl, _, _, rfl, rfl, l, _, _, .ref b, rfl, rfl, SqL.of hl, atI_of (by omega) (by rw [show (1 + (i : Int) - 1).toNat = i by omega]; exact eb), ?_⟩
      refine ⟨a, b, _, _, _, _, rfl, Ia, Ib, _, rfl, ite2 (fun hlt => ?_) (fun hge => ?_)⟩
      · refine ⟨_, rfl, err_out fun d H5 s5 e5 => kd i _ _ (List.getElem?_eq_getElem h1) (List.getElem?_eq_getElem h2) (of_decide_eq_true hlt) up d H5 s5 e5⟩
      · refine ⟨rfl, ⟨_, rfl⟩, fun m p q hm ep eq => ?_⟩
        by_cases h : m < i
        · exact up m p q h ep eq
        · have e : m = i := by omega
          subst e
          rw [List.getElem?_eq_getElem h1] at ep
          rw [List.getElem?_eq_getElem h2] at eq
          cases ep
          cases eq
          have z : ¬ (ps[m + 1].1 < ps[m].1) := fun y => hge (decide_eq_true y)
          omega
    · rintro σ H1 ⟨rfl, ⟨kv, rfl⟩, up⟩
      have all : Up ps ps.length := fun m a b hm ea eb => by
        have h : m + 1 < ps.length := (List.getElem?_eq_some_iff.mp eb).1
        exact up m a b (by omega) ea eb
      refine ⟨_, rfl, _, _, rfl, .inl ⟨_, SqL.of hl, rfl⟩, _, rfl, _, _, rfl, rfl, _, rfl, ite2 (fun hgt => ?_) (fun hle => ?_)⟩
      · have h := of_decide_eq_true hgt
        exact ⟨_, rfl, err_out fun d H5 s5 e5 => km all (by omega) d H5 s5 e5⟩
      · have h : ¬ (most < (ys.length : Int)) := fun y => hle (decide_eq_true y)
        exact kg all (by omega)
end
end K09
namespace K09
open PySem PySem.Spec PyProof.Rows L2 He Tw
theorem it_put {K : Fg} {H : Hp} {l a : Addr} {o : HO} {i : Int} {z : Str} (hl : ∀ dx i z, H l ≠ some (.ins (ga K "Item") dx [("rank", .int i), ("name", .str z)])) (h : It K H a i z) : It K (upd H l o) a i z := by
  obtain ⟨dx, h⟩ := h
  exact ⟨dx, by rw [upd_ne (fun e => hl dx i z (by rw [← e]; exact h))]; exact h⟩
theorem its_put {K : Fg} {H : Hp} {l : Addr} {o : HO} (hl : ∀ dx i z, H l ≠ some (.ins (ga K "Item") dx [("rank", .int i), ("name", .str z)])) : ∀ {ys : List V} {ps : List (Int × Str)}, Its K H ys ps → Its K (upd H l o) ys ps
  | _, _, .nil => .nil
  | _, _, .cons ⟨a, h1, h2⟩ t => .cons ⟨a, h1, it_put hl h2⟩ (its_put hl t)
/-- what stands for a row's items, told -/
structure Src (K : Fg) (H : Hp) (q : Addr) (xs : List V) (os : List (Option (Int × Str))) : Prop where
  seq : Seq K H q xs
  few : xs.length ≤ 900
  len : os.length = xs.length
  vv : ∀ (i : Nat) (x : V), xs[i]? = some x → ∃ o : Option (Int × Str), os[i]? = some o ∧ Vv K H x o
theorem Src.same {K : Fg} {H H' : Hp} {q : Addr} {xs : List V} {os : List (Option (Int × Str))} (e : Same H H') (h : Src K H q xs os) : Src K H' q xs os :=
  ⟨seq_same e h.seq, h.few, h.len, fun i x hx => by
    obtain ⟨o, h1, h2⟩ := h.vv i x hx
    exact ⟨o, h1, h2.same e⟩⟩
/-- how the making of a row goes wrong: which error, its field, its value -/
inductive Bad (os : List (Option (Int × Str))) : Str → Str → Int → Prop where
  | item {n : Nat} {ps : List (Int × Str)} (h1 : ps.length = n) (h2 : ∀ (m : Nat) (p : Int × Str), ps[m]? = some p → os[m]? = some (some p)) (h3 : os[n]? = some none) : Bad os "BadItem" "part" (n : Nat)
  | order {k : Nat} {ps : List (Int × Str)} {a b : Int × Str} (h0 : os = ps.map some) (h1 : ps[k]? = some a) (h2 : ps[k + 1]? = some b) (h3 : b.1 < a.1) (h4 : Up ps k) : Bad os "Disordered" "at" (1 + (k : Int))
  | many {ps : List (Int × Str)} (h0 : os = ps.map some) (h1 : Up ps ps.length) (h2 : (200 : Int) < (ps.length : Int)) : Bad os "TooMany" "most" 200
/-- a row made -/
def spRow (K : Fg) : Sp := fun vs H Q E => ∃ (a q dx : Addr) (xs : List V) (os : List (Option (Int × Str))), vs = [.ref a, .ref q] ∧ H a = some (.ins (ga K "Row") dx []) ∧ Src K H q xs os ∧
  (∀ (ps : List (Int × Str)), os = ps.map some → Up ps ps.length → ps.length ≤ 200 → ∀ (H' : Hp) (ys : List V), But a H H' → RowAt K H' a ys → Its K H' ys ps → Q .non H') ∧
  (∀ (x f : Str) (v : Int), Bad os x f v → ∀ (d : Addr) (H' : Hp), Same H H' → H' d = some (.xd [(f, .int v)]) → E (.ref (ga K x)) (some d) H')
abbrev s_row : Stmt := inClass (topS 27) 1
abbrev N_row : List Str := ["self", "items", "found"]
theorem sc_row : FnScope N_row ["self", "items"] (defScope s_row) := ⟨rfl, rfl, rfl, by decide +kernel, rfl, by decide +kernel, by decide +kernel⟩
section
variable {P : Program} {w : World} {K : Fg} {mg : Str → Option Value} {base : Heap}
theorem ok_row {f fA fN : Addr} {fd fdA fdN : FuncData} {dvs : List V} (F : FunD K "__init__" "Row.__init__" (defArgs s_row) (defBody s_row) (defScope s_row) dvs [] f fd) (FA : FnP K "as_items" "as_items" s_as fA fdA) (gA : mg "as_items" = some (.ref fA)) (G_as : FnOk P w K mg base (L2.CX P w) 5 fA fdA ["values"] (spAs K))
    (FN : FnP K "need_row" "need_row" s_need fN fdN) (gN : mg "need_row" = some (.ref fN)) (G_need : FnOk P w K mg base (L2.CX P w) 3 fN fdN ["items", "most"] (spNeed K)) (T : Txt K mg) : FnOk P w K mg base (L2.CX P w) 6 f fd ["self", "items"] (spRow K) := by
  have ztup : mg "tuple" = none := T.bl (by decide +kernel)
  have b_as : Binds K fdA ["values"] [] := FA.bindsN fun _ _ _ _ _ _ us hl => match us, hl with | [_], _ => rfl
  have b_need : Binds K fdN ["items", "most"] [] := FN.bindsN fun _ _ _ _ _ _ us hl => match us, hl with | [_, _], _ => rfl
  obtain ⟨um, hm⟩ := T.most
  refine F.ok sc_row (fun vs H Q E h => ?_) (fun cdv A outer s H vs Q E hr h => ?_)
  · obtain ⟨a, q, dx, xs, os, rfl, _⟩ := h
    rfl
  · obtain ⟨a, q, dx, xs, os, rfl, ha, S, kg, kb⟩ := h
    refine ⟨_, (pss_cons (ps_set (i := 2) sc_row.nd rfl (Or.inl rfl) (pe_callS G_as (hr.mono (by decide)) rfl gA FA.kp b_as (fun σ => passAt (takes_of rfl rfl rfl rfl) σ) (pa_cons (pv 1) pa_nil)))
    (pss_cons (ps_expr (pe_callS G_need (hr.mono (by decide)) rfl gN FN.kp b_need (fun σ => passAt (takes_of rfl rfl rfl rfl) σ) (pa_cons (pv 2) (pa_cons (pe_con (pv 0) rfl) pa_nil))))
    (pss_one (ps_fld (pv 0) (pe_callTy call_tuple_of (by rfl) ztup (by decide +kernel) (pa_cons (pv 2) pa_nil)) rfl)))), ?_⟩
    refine ⟨_, rfl, q, xs, os, rfl, S.seq, S.few, S.len, S.vv, fun ps l H1 ys e0 h0 s1 g1 its => ?_, fun n ps d H1 h1 h2 h3 s1 e1 => kb _ _ _ (.item h1 h2 h3) d H1 s1 e1⟩
    have ha1 := s1 _ _ ha
    have hl9 : ys.length ≤ 900 := by
      have h1 := S.len
      have h2 := its_len its
      rw [e0, List.length_map] at h1
      have := S.few
      omega
    refine ⟨_, rfl, _, rfl, a, _, dx, _, .int 200, um, rfl, ha1, T.clsR, hm, rfl, l, 200, ys, ps, rfl, g1, its, hl9, fun up few => ?_, fun k p p' h1 h2 h3 h4 d H2 s2 e2 => kb _ _ _ (.order e0 h1 h2 h3 h4) d H2 (s1.trans s2) e2, fun up big d H2 s2 e2 => kb _ _ _ (.many e0 up big) d H2 (s1.trans s2) e2⟩
    refine ⟨_, rfl, l, ys, rfl, .inl ⟨SqL.of g1, fun t ht => ⟨_, rfl, a, _, dx, _, rfl, (same_new ht) _ _ ha1, T.clsR, T.naR, (by show 0 < 1000; decide), ?_⟩⟩⟩
    have hat : a ≠ t := ne_of_none ha1 ht
    refine kg ps e0 up (by omega) _ ys (((But.of s1).trans (But.of (same_new ht))).trans But.upd) ⟨dx, t, upd_same, by rw [upd_ne hat.symm]; exact upd_same⟩ (its_put (fun dx' i z e => ?_) (its.same (same_new ht)))
    rw [(same_new ht) _ _ ha1] at e
    exact nomatch (HO.ins.inj (Option.some.inj e)).2.2
end
end K09
namespace K09
open PySem PySem.Spec PyProof.Rows L2 He Tw
def spListed (K : Fg) : Sp := fun vs H Q _ => ∃ (a : Addr) (ys : List V), vs = [.ref a] ∧ RowAt K H a ys ∧ ∀ (l : Addr) (H' : Hp), H l = none → Same H H' → H' l = some (.lst ys) → Q (.ref l) H'
def rk (ps : List (Int × Str)) : List Int := ps.map fun p => p.1
def spRanks (K : Fg) : Sp := fun vs H Q _ => ∃ (a : Addr) (ys : List V) (ps : List (Int × Str)), vs = [.ref a] ∧ RowAt K H a ys ∧ Its K H ys ps ∧ ys.length ≤ 900 ∧ ∀ (l : Addr) (H' : Hp), H l = none → Same H H' → H' l = some (.lst ((rk ps).map V.int)) → Q (.ref l) H'
def spLen (K : Fg) : Sp := fun vs H Q _ => ∃ (a : Addr) (ys : List V), vs = [.ref a] ∧ RowAt K H a ys ∧ ys.length ≤ 900 ∧ Q (.int (ys.length : Nat)) H
def spEqR (K : Fg) : Sp := fun vs H Q _ => ∃ (a b : Addr) (ys zs : List V) (ps us : List (Int × Str)), vs = [.ref a, .ref b] ∧ RowAt K H a ys ∧ Its K H ys ps ∧ ys.length ≤ 900 ∧ RowAt K H b zs ∧ Its K H zs us ∧ zs.length ≤ 900 ∧ rk ps = rk us ∧ ∀ H', Same H H' → Q (.bl true) H'
theorem RowAt.same {K : Fg} {H H' : Hp} {a : Addr} {ys : List V} (e : Same H H') (h : RowAt K H a ys) : RowAt K H' a ys := by
  obtain ⟨dx, t, h1, h2⟩ := h
  exact ⟨dx, t, e _ _ h1, e _ _ h2⟩
theorem fldK {X : Cx} {e : Expr} {f : Str} {pos : Pos} {ta : TE} (K : Fg) (he : PE X e ta) (hb : attributeBase e f X.env (eval e X.env) = eval e X.env := by rfl) (h : X.K = K := by rfl) : PE X (.Attribute e f pos) (tFld K ta f) := by
  subst h
  exact pe_fld he hb
abbrev s_lst : Stmt := inClass (topS 27) 10
theorem sc_lst : FnScope ["self"] ["self"] (defScope s_lst) := ⟨rfl, rfl, rfl, by decide +kernel, rfl, by decide +kernel, by decide +kernel⟩
abbrev s_rks : Stmt := inClass (topS 27) 11
abbrev N_rks : List Str := ["self", "item"]
theorem sc_rks : FnScope N_rks ["self"] (defScope s_rks) := ⟨rfl, rfl, rfl, by decide +kernel, rfl, by decide +kernel, by decide +kernel⟩
abbrev s_len : Stmt := inClass (topS 27) 3
theorem sc_len : FnScope ["self"] ["self"] (defScope s_len) := ⟨rfl, rfl, rfl, by decide +kernel, rfl, by decide +kernel, by decide +kernel⟩
abbrev s_eqr : Stmt := inClass (topS 27) 9
theorem sc_eqr : FnScope ["self", "other"] ["self", "other"] (defScope s_eqr) := ⟨rfl, rfl, rfl, by decide +kernel, rfl, by decide +kernel, by decide +kernel⟩
section
variable {P : Program} {w : World} {K : Fg} {mg : Str → Option Value} {base : Heap}
theorem ok_lst {f : Addr} {fd : FuncData} (F : FnP K "listed" "Row.listed" s_lst f fd) (T : Txt K mg) : FnOk P w K mg base CX0 1 f fd ["self"] (spListed K) := by
  have zlist : mg "list" = none := T.bl (by decide +kernel)
  refine F.ok sc_lst (fun vs H Q E h => ?_) (fun cdv A outer s H vs Q E hr h => ?_)
  · obtain ⟨a, ys, rfl, _⟩ := h
    rfl
  · obtain ⟨a, ys, rfl, ⟨dx, t, ha, ht⟩, k⟩ := h
    refine ⟨_, PSs.nox (pss_one (ps_ret (pe_callTy call_list_of (by rfl) zlist (by decide +kernel) (pa_cons (pe_fld (pv 0) rfl) pa_nil)))), ?_⟩
    exact ⟨_, rfl, a, _, dx, _, _, rfl, ha, T.clsR, T.naR, rfl, t, ys, rfl, .inr (SqT.of ht), fun l hl => k l _ hl (same_new hl) upd_same⟩
theorem ok_rks {f : Addr} {fd : FuncData} (F : FnP K "ranks" "Row.ranks" s_rks f fd) (T : Txt K mg) : FnOk P w K mg base CX0 1 f fd ["self"] (spRanks K) := by
  refine F.ok sc_rks (fun vs H Q E h => ?_) (fun cdv A outer s H vs Q E hr h => ?_)
  · obtain ⟨a, ys, ps, rfl, _⟩ := h
    rfl
  · obtain ⟨a, ys, ps, rfl, ⟨dx, t, ha, ht⟩, its, hn, k⟩ := h
    refine ⟨_, PSs.nox (pss_one (ps_ret (pe_lc (own := [("item", 1)]) (g := gName 1) (tt := tYes) (by rfl) sc_rks.nd (pi_tup (pe_fld (pv 0) rfl)) (blkOk_by (own := [("item", 1)]) (N := N_rks) (sc := defScope s_rks) (by decide +kernel)) (fun _ _ _ _ _ => (pg_name (i := 1) sc_rks.nd rfl (Or.inl rfl))) (fun _ _ _ _ _ => pts_nil) (fun _ _ _ _ _ => (fldK K (pv 1)))))), ?_⟩
    have ln := its_len its
    refine ⟨_, rfl, a, _, dx, _, _, rfl, ha, T.clsR, T.naR, rfl, t, rfl, ⟨ys, SqT.of ht⟩, fun D hD => lc_tup (K := K) (a := t) (xs := ys) (fun i H' => Same H H' ∧ H' D = some (.lst (((rk ps).take i).map V.int))) ⟨same_new hD, upd_same⟩ (fun _ _ _ q => SqT.of (q.1 _ _ ht)) ?_ ?_⟩
    · rintro i x H' hx ⟨sD, gD⟩
      have hi : i < ps.length := by
        have := (List.getElem?_eq_some_iff.mp hx).1
        omega
      obtain ⟨b, eb, Ib⟩ := its_at its (List.getElem?_eq_getElem hi)
      rw [hx] at eb
      cases eb
      obtain ⟨db, hb⟩ := Ib.same sD
      refine ⟨rfl, _, rfl, b, _, db, _, _, rfl, hb, T.cls, T.na (by decide +kernel), rfl, _, gD, ?_, same_upd sD hD, ?_⟩
      · rw [List.length_map]
        exact Nat.lt_of_le_of_lt (List.length_take_le' _ _) (by
          unfold rk
          rw [List.length_map]
          exact Nat.lt_of_lt_of_le (show ps.length < 1000 by omega) (by decide))
      · have e : (rk ps)[i]? = some ps[i].1 := by
          unfold rk
          rw [List.getElem?_map, List.getElem?_eq_getElem hi]
          rfl
        rw [upd_same, List.take_add_one, e, List.map_append]
        rfl
    · rintro H' ⟨sD, gD⟩
      rw [List.take_of_length_le (by unfold rk; rw [List.length_map]; omega)] at gD
      exact k D H' hD sD gD
theorem ok_len {f : Addr} {fd : FuncData} (F : FnP K "__len__" "Row.__len__" s_len f fd) (T : Txt K mg) : FnOk P w K mg base CX0 1 f fd ["self"] (spLen K) := by
  have zlen : mg "len" = none := T.bl (by decide +kernel)
  refine F.ok sc_len (fun vs H Q E h => ?_) (fun cdv A outer s H vs Q E hr h => ?_)
  · obtain ⟨a, ys, rfl, _⟩ := h
    rfl
  · obtain ⟨a, ys, rfl, ⟨dx, t, ha, ht⟩, hn, k⟩ := h
    refine ⟨_, PSs.nox (pss_one (ps_ret (pe_callB call_len (by rfl) zlen (by decide +kernel) (pa_cons (pe_fld (pv 0) rfl) pa_nil)))), ?_⟩
    exact ⟨_, rfl, a, _, dx, _, _, rfl, ha, T.clsR, T.naR, rfl, _, _, rfl, .inr ⟨_, SqT.of ht, rfl⟩, k⟩
end
end K09
namespace K09
open PySem PySem.Spec PyProof.Rows L2 He Tw
/-- references to pairs of these ranks and names -/
def Prs (H : Hp) (ts : List V) (ps : List (Int × Str)) : Prop := Paired (fun v p => ∃ t, v = V.ref t ∧ H t = some (.tup [.int p.1, .str p.2])) ts ps
theorem Prs.keep {H H' : Hp} (k : ∀ t xs, H t = some (.tup xs) → H' t = some (.tup xs)) : ∀ {ts : List V} {ps : List (Int × Str)}, Prs H ts ps → Prs H' ts ps
  | _, _, .nil => .nil
  | _, _, .cons ⟨t, h1, h2⟩ r => .cons ⟨t, h1, k _ _ h2⟩ (Prs.keep k r)
theorem Prs.snoc {H : Hp} : ∀ {ts : List V} {ps : List (Int × Str)} {t : Addr} {p : Int × Str}, Prs H ts ps → H t = some (.tup [.int p.1, .str p.2]) → Prs H (ts ++ [.ref t]) (ps ++ [p])
  | _, _, _, _, .nil, h => .cons ⟨_, rfl, h⟩ .nil
  | _, _, _, _, .cons x r, h => .cons x (Prs.snoc r h)
/-- a pair that makes an item -/
def Gd (p : Int × Str) : Prop := p.1.natAbs ≤ 10 ^ 29 + 10 ^ 12 ∧ textOk p.2 = true ∧ p.2.length ≤ 8
theorem up_snoc {ps : List (Int × Str)} {a : Int × Str} (h : Up ps ps.length) (hl : ∀ q, ps.getLast? = some q → q.1 ≤ a.1) : Up (ps ++ [a]) (ps ++ [a]).length := fun m x y hm ex ey => by
  have h2 : m + 1 < (ps ++ [a]).length := (List.getElem?_eq_some_iff.mp ey).1
  rw [List.length_append, List.length_singleton] at h2
  rw [List.getElem?_append_left (by omega)] at ex
  by_cases h3 : m + 1 < ps.length
  · rw [List.getElem?_append_left h3] at ey
    exact h m x y (by omega) ex ey
  · have e : m + 1 = ps.length := by omega
    rw [e, List.getElem?_append_right (Nat.le_refl _), Nat.sub_self] at ey
    cases ey
    refine hl x ?_
    rw [List.getLast?_eq_getElem?, show ps.length - 1 = m by omega]
    exact ex
def spPairs : Sp := fun vs H Q _ => ∃ (p l : Addr) (most : Nat) (c : Nat), vs = [.ref p, .int (most : Nat)] ∧ most ≤ 100 ∧ PenL H p l c ∧ c ≤ 500000 ∧
  ∀ (f : Addr) (H' : Hp) (ts : List V) (ps : List (Int × Str)), PenL H' p l (c + 300) → But p H H' → H f = none → f ≠ p → H' f = some (.lst ts) → Prs H' ts ps → ps.length ≤ most → Up ps ps.length → (∀ q ∈ ps, Gd q) → Q (.ref f) H'
abbrev s_pairs : Stmt := topS 34
abbrev N_pairs : List Str := ["_law_pen_here", "_law_most", "_law_rank", "_law_found", "_law_k"]
theorem sc_pairs : FnScope N_pairs ["_law_pen_here", "_law_most"] (defScope s_pairs) := ⟨rfl, rfl, rfl, by decide +kernel, rfl, by decide +kernel, by decide +kernel⟩
section
variable {P : Program} {w : World} {K : Fg} {mg : Str → Option Value} {base : Heap}
theorem ok_pairs {f fD fP : Addr} {fd fdD fdP : FuncData} (F : FnP K "_law_pairs" "_law_pairs" s_pairs f fd) (FD : FnP K "_law_draw" "_law_draw" s_draw fD fdD) (gD : mg "_law_draw" = some (.ref fD)) (FP : FnP K "_law_pick" "_law_pick" s_pick fP fdP) (gP : mg "_law_pick" = some (.ref fP)) (T : Txt K mg) :
    FnOk P w K mg base CX0 3 f fd ["_law_pen_here", "_law_most"] spPairs := by
  have zr : mg "range" = none := T.bl (by decide +kernel)
  have G_draw : FnOk P w K mg base CX0 1 fD fdD ["_law_pen_here", "_law_many"] spDrawL := ok_draw FD T
  have b_draw : Binds K fdD ["_law_pen_here", "_law_many"] [] := FD.bindsN fun _ _ _ _ _ _ us hl => match us, hl with | [_, _], _ => rfl
  have G_pick : FnOk P w K mg base CX0 2 fP fdP ["_law_pen_here", "_law_some"] (spPickL K) := ok_pick FP FD gD T
  have b_pick : Binds K fdP ["_law_pen_here", "_law_some"] [] := FP.bindsN fun _ _ _ _ _ _ us hl => match us, hl with | [_, _], _ => rfl
  refine F.ok sc_pairs (fun vs H Q E h => ?_) (fun cdv A outer s H vs Q E hr h => ?_)
  · obtain ⟨p, l, most, c, rfl, _⟩ := h
    rfl
  · obtain ⟨p, l, most, c, rfl, hm, hP, hc, k⟩ := h
    refine ⟨_, PSs.nox (pss_cons (ps_set (i := 2) sc_pairs.nd rfl (Or.inl rfl) (pe_call G_pick (hr.mono (by decide)) rfl gP FP.kp b_pick .nil pass0 (pa_cons (pv 0) (pa_cons (pe_lstN (pa_cons pe_int (pa_cons (pe_un un_neg pe_int) (pa_cons pe_int (pa_cons (pe_un un_neg (pe_op op_pow pe_int pe_int)) (pa_cons (pe_op op_pow pe_int pe_int) pa_nil)))))) pa_nil))))
    (pss_cons (ps_set (i := 3) sc_pairs.nd rfl (Or.inl rfl) (pe_lstN pa_nil))
    (pss_cons (ps_for PassesOwn.never rfl (pi_range1 rfl zr (pa_cons (pe_call G_draw (hr.mono (by decide)) rfl gD FD.kp b_draw .nil pass0 (pa_cons (pv 0) (pa_cons (pe_op op_add (pv 1) pe_int) pa_nil))) pa_nil)) (pg_name (i := 4) sc_pairs.nd rfl (Or.inl rfl))
    (pss_cons (ps_set (i := 2) sc_pairs.nd rfl (Or.inl rfl) (pe_op op_add (pv 2) (pe_call G_pick (hr.mono (by decide)) rfl gP FP.kp b_pick .nil pass0 (pa_cons (pv 0) (pa_cons (pe_lstN (pa_cons pe_int (pa_cons pe_int (pa_cons pe_int (pa_cons pe_int (pa_cons pe_int (pa_cons pe_int (pa_cons (pe_op op_pow pe_int pe_int) pa_nil)))))))) pa_nil)))))
    (pss_one (ps_expr (pe_bm PySem.F.plainAttrs_list PySem.F.slot_list_append PySem.F.type_list_append mt_append (pv 3) (pa_cons (pe_tupN (pa_cons (pv 2) (pa_cons (pe_call G_pick (hr.mono (by decide)) rfl gP FP.kp b_pick .nil pass0 (pa_cons (pv 0) (pa_cons (pe_lstN (pa_cons pe_str (pa_cons pe_str (pa_cons pe_str (pa_cons pe_str (pa_cons pe_str (pa_cons pe_str pa_nil))))))) pa_nil))) pa_nil))) pa_nil))))))
    (pss_one (ps_ret (pv 3)))))), ?_⟩
    refine ⟨_, rfl, _, rfl, _, _, rfl, rfl, ⟨by decide, by decide, by decide⟩, _, rfl, _, _, rfl, rfl, ⟨by decide, by decide, by decide⟩, sz1000 (by show 5 ≤ 1000; decide), fun q1 H1 f1 m1 s1 g1 => ?_⟩
    refine ⟨p, l, q1, _, c, rfl, SqL.of g1, (hP.new f1).1, (by show 0 < 5; decide), (by show 5 < 1000; decide), hP.same s1, by omega, fun v H2 hv P2 B2 => ?_⟩
    obtain ⟨r0, rfl, hr0⟩ : ∃ r : Int, v = .int r ∧ r.natAbs ≤ 10 ^ 29 := by
      simp only [List.mem_cons, List.not_mem_nil, or_false] at hv
      rcases hv with rfl | rfl | rfl | rfl | rfl
      · exact ⟨_, rfl, by decide⟩
      · exact ⟨_, rfl, by decide⟩
      · exact ⟨_, rfl, by decide⟩
      · exact ⟨_, rfl, by decide⟩
      · exact ⟨_, rfl, by decide⟩
    have B20 : But p H H2 := (But.of s1).trans B2
    refine ⟨sz1000 (Nat.zero_le _), fun lf H3 f3 m3 s3 g3 => ?_⟩
    have P3 := P2.same s3
    refine ⟨_, rfl, _, rfl, _, _, rfl, rfl, p, l, (most : Int) + 1, c + 1, rfl, by omega, by omega, P3, by omega, fun n H4 n0 n1 P4 B4 => ?_⟩
    obtain ⟨nlp, nll⟩ := P2.new f3
    have hlfH : H lf = none := by
      cases e : H lf with
      | none => rfl
      | some o =>
        by_cases h : lf = p
        · exact absurd h nlp
        · rw [B20 lf o e h] at f3
          cases f3
    have B40 : But p H H4 := (B20.trans (But.of s3)).trans B4
    refine ⟨n, rfl, by omega, by omega, for_range (lo := 0) (n := n.toNat) (fun i σ H' => ∃ (r : Int) (kv : Option V) (ts : List V) (ps : List (Int × Str)), σ = [some (.ref p), some (.int (most : Nat)), some (.int r), some (.ref lf), kv] ∧ PenL H' p l (c + 2 + 2 * i) ∧ But p H H' ∧ H' lf = some (.lst ts) ∧ Prs H' ts ps ∧ ps.length = i ∧
      Up ps ps.length ∧ (∀ q, ps.getLast? = some q → q.1 ≤ r) ∧ r.natAbs ≤ 10 ^ 29 + i * 10 ^ 9 ∧ ∀ q ∈ ps, Gd q) ⟨r0, none, [], [], rfl, P4, B40, B4 _ _ g3 nlp, .nil, rfl, (fun m a b h => absurd h (Nat.not_lt_zero _)), (fun q h => nomatch h), (by omega), (fun q h => nomatch h)⟩ ?_ ?_⟩
    · rintro i σ H5 hi ⟨r, kv, ts, ps, rfl, P5, B5, g5, prs, hl, up, last, hr5, gd⟩
      have e9 : (10 : Int) ^ (9 : Int).toNat = 1000000000 := by decide
      refine ⟨_, rfl, _, rfl, _, _, rfl, rfl, ⟨by decide, by decide, by decide⟩, sz1000 (by show 7 ≤ 1000; decide), fun q6 H6 f6 m6 s6 g6 => ?_⟩
      refine ⟨p, l, q6, _, c + 2 + 2 * i, rfl, SqL.of g6, (P5.new f6).1, (by show 0 < 7; decide), (by show 7 < 1000; decide), P5.same s6, by omega, fun v H7 hv P7 B7 => ?_⟩
      obtain ⟨d, rfl, hd0, hd1⟩ : ∃ d : Int, v = .int d ∧ 0 ≤ d ∧ d ≤ 1000000000 := by
        simp only [List.mem_cons, List.not_mem_nil, or_false] at hv
        rcases hv with rfl | rfl | rfl | rfl | rfl | rfl | rfl <;> exact ⟨_, rfl, by decide, by decide⟩
      have g7 := B7 _ _ (s6 _ _ g5) nlp
      refine ⟨_, _, rfl, rfl, _, rfl, .inl ⟨rfl, _, SqL.of g7⟩, _, rfl, _, rfl, sz1000 (by show 6 ≤ 1000; decide), fun q8 H8 f8 m8 s8 g8 => ?_⟩
      refine ⟨p, l, q8, _, c + 3 + 2 * i, rfl, SqL.of g8, (P7.new f8).1, (by show 0 < 6; decide), (by show 6 < 1000; decide), (P7.same s8).mono (by omega), by omega, fun v H9 hv P9 B9 => ?_⟩
      obtain ⟨z, rfl, tz⟩ : ∃ z : Str, v = .str z ∧ textOk z = true ∧ z.length ≤ 8 := by
        simp only [List.mem_cons, List.not_mem_nil, or_false] at hv
        rcases hv with rfl | rfl | rfl | rfl | rfl | rfl <;> exact ⟨_, rfl, by decide +kernel, by decide +kernel⟩
      have g9 := B9 _ _ (s8 _ _ g7) nlp
      refine ⟨sz1000 (by show 2 ≤ 1000; decide), fun t H10 f10 s10 g10 => ?_⟩
      have g10f := s10 _ _ g9
      have BB : But p H5 H10 := ((((But.of s6).trans B7).trans (But.of s8)).trans B9).trans (But.of s10)
      have tup_ne : ∀ {a : Addr} {xs : List V}, H5 a = some (.tup xs) → a ≠ p := fun {a xs} e h => by
        obtain ⟨ns, i', g', h1, _⟩ := P5
        rw [h, h1] at e
        cases e
      have prs10 : Prs H10 ts ps := prs.keep fun a xs e => BB _ _ e (tup_ne e)
      have lt : ts.length < sizeLine := by
        have h1 : ts.length = ps.length := Paired.length prs
        exact Nat.lt_of_lt_of_le (show ts.length < 1000 by omega) (by decide)
      refine ⟨lf, _, _, rfl, rfl, g10f, lt, r + d, _, _, ps ++ [(r + d, z)], rfl, ?_, ?_, upd_same, ?_, ?_, ?_, ?_, ?_, ?_⟩
      · obtain ⟨a1, a2⟩ := P2.new f3
        exact ((P9.same s10).upd a1 a2).mono (by omega)
      · exact fun b o hb hbp => by
          rw [upd_ne (ne_of_none hb hlfH)]
          exact BB b o (B5 b o hb hbp) hbp
      · have ne : ∀ {a : Addr} {xs : List V}, H10 a = some (.tup xs) → a ≠ lf := fun {a xs} e h => by
          rw [h, g10f] at e
          cases e
        refine Prs.snoc (prs10.keep fun a xs e => by
          rw [upd_ne (ne e)]
          exact e) ?_
        rw [upd_ne (ne g10)]
        exact g10
      · rw [List.length_append, hl]
        rfl
      · exact up_snoc up fun q hq => by
          have := last q hq
          show q.1 ≤ r + d
          omega
      · intro q hq
        rw [List.getLast?_append] at hq
        cases hq
        exact Int.le_refl _
      · have h2 : ((i + 1) * 10 ^ 9 : Nat) = i * 10 ^ 9 + 1000000000 := by omega
        omega
      · intro q hq
        rcases List.mem_append.mp hq with h | h
        · exact gd q h
        · have e := List.mem_singleton.mp h
          subst e
          refine ⟨?_, tz⟩
          show (r + d).natAbs ≤ _
          omega
    · rintro σ H5 ⟨r, kv, ts, ps, rfl, P5, B5, g5, prs, hl, up, last, hr5, gd⟩
      exact ⟨_, rfl, k lf H5 ts ps (P5.mono (by omega)) B5 hlfH nlp g5 prs (by omega) up gd⟩
end
end K09
namespace K09
open PySem PySem.Spec PyProof.Rows L2 He Tw
theorem dec_s {i j : Str} : decide (V.str i = V.str j) = decide (i = j) := by
  by_cases h : i = j
  · rw [h]
    simp
  · rw [decide_eq_false h, decide_eq_false fun z => h (V.str.inj z)]
theorem prs_at {H : Hp} : ∀ {ts : List V} {ps : List (Int × Str)} {i : Nat} {x : V}, Prs H ts ps → ts[i]? = some x → ∃ t p, x = V.ref t ∧ ps[i]? = some p ∧ H t = some (.tup [.int p.1, .str p.2])
  | _, _, 0, _, .cons ⟨t, h1, h2⟩ _, e => by
    cases e
    exact ⟨t, _, h1, rfl, h2⟩
  | _, _, n + 1, _, .cons _ r, e => prs_at (i := n) (show Prs _ _ _ from r) e
/-- values that stand for these pairs -/
def Vals' (K : Fg) (H : Hp) (xs : List V) (ps : List (Int × Str)) : Prop := Paired (fun x q => Vv K H x (some q)) xs ps
theorem vals_keep {K : Fg} {H H' : Hp} (k : ∀ a dx i z, H a = some (.ins (ga K "Item") dx [("rank", .int i), ("name", .str z)]) → H' a = some (.ins (ga K "Item") dx [("rank", .int i), ("name", .str z)])) {x : V} {q : Int × Str} (h : Vv K H x (some q)) : Vv K H' x (some q) := by
  cases h with
  | item h =>
    obtain ⟨dx, h⟩ := h
    exact .item ⟨dx, k _ _ _ _ h⟩
  | int h => exact .int h
theorem Vals'.keep {K : Fg} {H H' : Hp} (k : ∀ a dx i z, H a = some (.ins (ga K "Item") dx [("rank", .int i), ("name", .str z)]) → H' a = some (.ins (ga K "Item") dx [("rank", .int i), ("name", .str z)])) : ∀ {xs : List V} {ps : List (Int × Str)}, Vals' K H xs ps → Vals' K H' xs ps
  | _, _, .nil => .nil
  | _, _, .cons h r => .cons (vals_keep k h) (Vals'.keep k r)
theorem Vals'.snoc {K : Fg} {H : Hp} : ∀ {xs : List V} {ps : List (Int × Str)} {x : V} {q : Int × Str}, Vals' K H xs ps → Vv K H x (some q) → Vals' K H (xs ++ [x]) (ps ++ [q])
  | _, _, _, _, .nil, h => .cons h .nil
  | _, _, _, _, .cons x r, h => .cons x (Vals'.snoc r h)
theorem gd_rank {q : Int × Str} (h : Gd q) : rankOk (.int q.1) = true := by
  have h1 : -beyond < q.1 := by
    unfold beyond
    have := h.1
    omega
  have h2 : q.1 < beyond := by
    unfold beyond
    have := h.1
    omega
  show (decide _ && decide _) = true
  rw [decide_eq_true h1, decide_eq_true h2]
  rfl
def spValues (K : Fg) : Sp := fun vs H Q _ => ∃ (p l f : Addr) (ts : List V) (ps : List (Int × Str)) (c : Nat), vs = [.ref p, .ref f] ∧ PenL H p l c ∧ c ≤ 600000 ∧ H f = some (.lst ts) ∧ f ≠ p ∧ Prs H ts ps ∧ ps.length ≤ 400 ∧ (∀ q ∈ ps, Gd q) ∧
  ∀ (g : Addr) (H' : Hp) (xs : List V), PenL H' p l (c + ps.length) → But p H H' → H g = none → g ≠ p → H' g = some (.lst xs) → Vals' K H' xs ps → Q (.ref g) H'
abbrev s_values : Stmt := topS 35
abbrev N_values : List Str := ["_law_pen_here", "_law_pairs_here", "_law_found", "_law_rank", "_law_name"]
theorem sc_values : FnScope N_values ["_law_pen_here", "_law_pairs_here"] (defScope s_values) := ⟨rfl, rfl, rfl, by decide +kernel, rfl, by decide +kernel, by decide +kernel⟩
section
variable {P : Program} {w : World} {K : Fg} {mg : Str → Option Value} {base : Heap}
theorem ok_values {f fD : Addr} {fd fdD fdI : FuncData} {d2 : List Value} (F : FnP K "_law_values" "_law_values" s_values f fd) (FD : FnP K "_law_draw" "_law_draw" s_draw fD fdD) (gD : mg "_law_draw" = some (.ref fD)) (I : Itm P w K mg base fdI d2) (T : Txt K mg) :
    FnOk P w K mg base CX0 5 f fd ["_law_pen_here", "_law_pairs_here"] (spValues K) := by
  have gI : mg "Item" = some (.ref (ga K "Item")) := T.cl (by decide +kernel)
  have G_draw : FnOk P w K mg base CX0 1 fD fdD ["_law_pen_here", "_law_many"] spDrawL := ok_draw FD T
  have b_draw : Binds K fdD ["_law_pen_here", "_law_many"] [] := FD.bindsN fun _ _ _ _ _ _ us hl => match us, hl with | [_, _], _ => rfl
  refine F.ok sc_values (fun vs H Q E h => ?_) (fun cdv A outer s H vs Q E hr h => ?_)
  · obtain ⟨p, l, f, ts, ps, c, rfl, _⟩ := h
    rfl
  · obtain ⟨p, l, f, ts, ps, c, rfl, hP, hc, hf, hfp, prs, hn, gd, k⟩ := h
    refine ⟨_, PSs.nox (pss_cons (ps_set (i := 2) sc_values.nd rfl (Or.inl rfl) (pe_lstN pa_nil))
    (pss_cons (ps_for PassesOwn.never rfl (pi_list (pv 1)) (pg_tup (by rfl) (pgs_cons (pg_name (i := 3) sc_values.nd rfl (Or.inl rfl)) (pgs_cons (pg_name (i := 4) sc_values.nd rfl (Or.inl rfl)) pgs_nil)))
    (pss_one (ps_expr (pe_bm PySem.F.plainAttrs_list PySem.F.slot_list_append PySem.F.type_list_append mt_append (pv 2) (pa_cons (pe_ifExp (PW.pt (pw_and (pt_cmpR op_eq (pv 4) pe_str (nomark _)) (pw_and1 (pt_cmpR op_eq (pe_call G_draw (hr.mono (by decide)) rfl gD FD.kp b_draw .nil pass0 (pa_cons (pv 0) (pa_cons pe_int pa_nil))) pe_int (nomark _))))) (pv 3) (pe_make (E := E0) T.mkI I.ok (hr.mono (by decide)) rfl gI I.b .nil passL (pa_cons (pv 3) (pa_cons (pv 4) pa_nil)))) pa_nil)))))
    (pss_one (ps_ret (pv 2))))), ?_⟩
    have lp : ts.length = ps.length := Paired.length prs
    refine ⟨sz1000 (Nat.zero_le _), fun g H1 f1 m1 s1 g1 => ?_⟩
    obtain ⟨ngp, ngl⟩ := hP.new f1
    refine ⟨_, rfl, f, rfl, ⟨ts, SqL.of (s1 _ _ hf)⟩, for_list (K := K) (a := f) (xs := ts) (fun i σ H' => ∃ (kv nv : Option V) (xs : List V), σ = [some (.ref p), some (.ref f), some (.ref g), kv, nv] ∧ PenL H' p l (c + i) ∧ But p H H' ∧ H' g = some (.lst xs) ∧ Vals' K H' xs (ps.take i)) ⟨none, none, [], rfl, hP.same s1, But.of s1, g1, .nil⟩
      (fun i σ H' _ ⟨_, _, _, _, _, b, _⟩ => SqL.of (b _ _ hf hfp)) ?_ ?_⟩
    · rintro i x σ H2 hx ⟨kv, nv, xs, rfl, P2, B2, g2, vv⟩
      obtain ⟨t, q, rfl, eq, ht⟩ := prs_at prs hx
      obtain ⟨r, z⟩ := q
      have gq : Gd (r, z) := gd _ (List.mem_of_getElem? eq)
      have ntp : t ≠ p := fun h => by
        obtain ⟨ns, i', g', h1, _⟩ := hP
        rw [h, h1] at ht
        cases ht
      have hi : i < ps.length := (List.getElem?_eq_some_iff.mp eq).1
      have lx : xs.length < sizeLine := by
        have h1 : xs.length = (ps.take i).length := Paired.length vv
        rw [List.length_take] at h1
        exact Nat.lt_of_lt_of_le (show xs.length < 1000 by omega) (by decide)
      have tk : ps.take (i + 1) = ps.take i ++ [(r, z)] := by rw [List.take_add_one, eq]; rfl
      -- what is appended
      have fin : ∀ {H3 : Hp} {y : V} {kv nv : Option V}, PenL H3 p l (c + (i + 1)) → But p H2 H3 → Vv K H3 y (some (r, z)) → H3 g = some (.lst xs) ∧ (∃ (kv' nv' : Option V) (xs' : List V), [some (V.ref p), some (.ref f), some (.ref g), kv, nv] = [some (.ref p), some (.ref f), some (.ref g), kv', nv'] ∧ PenL (upd H3 g (.lst (xs ++ [y]))) p l (c + (i + 1)) ∧ But p H (upd H3 g (.lst (xs ++ [y]))) ∧ (upd H3 g (.lst (xs ++ [y]))) g = some (.lst xs') ∧ Vals' K (upd H3 g (.lst (xs ++ [y]))) xs' (ps.take (i + 1))) := fun {H3 y kv nv} P3 B3 vy => by
        have g3 := B3 _ _ g2 ngp
        have kp : ∀ a dx j u, H2 a = some (.ins (ga K "Item") dx [("rank", .int j), ("name", .str u)]) → H3 a = some (.ins (ga K "Item") dx [("rank", .int j), ("name", .str u)]) := fun a dx j u e => B3 _ _ e (fun h => by
          obtain ⟨ns, i', g', h1, _⟩ := P2
          rw [h, h1] at e
          cases e)
        have kg : ∀ a dx j u, H3 a = some (.ins (ga K "Item") dx [("rank", .int j), ("name", .str u)]) → (upd H3 g (.lst (xs ++ [y]))) a = some (.ins (ga K "Item") dx [("rank", .int j), ("name", .str u)]) := fun a dx j u e => by
          rw [upd_ne (fun h => by
            rw [h, g3] at e
            cases e)]
          exact e
        refine ⟨g3, kv, nv, xs ++ [y], rfl, P3.upd ngp ngl, fun b o hb hbp => ?_, upd_same, ?_⟩
        · rw [upd_ne (ne_of_none hb f1)]
          exact B3 b o (B2 b o hb hbp) hbp
        · rw [tk]
          exact Vals'.snoc ((vv.keep kp).keep kg) (vals_keep kg vy)
      have mk : ∀ {H3 : Hp} {R : VK} {x dx : Addr}, H3 x = none → H3 dx = none → dx ≠ x → (∀ H4, It K H4 x r z → Same H3 H4 → R .non H4) → spItem K [.ref x, .int r, .str z] (upd (upd H3 dx (.own x)) x (.ins (ga K "Item") dx [])) R E0 := fun h1 h2 h3 h4 => item_mk h1 h2 h3 (gd_rank gq) (show nameOk (.str z) = true from gq.2.1) (Nat.le_trans gq.2.2 (by decide)) h4
      refine ⟨t, _, rfl, SqT.of (B2 _ _ ht ntp), rfl, ?_⟩
      refine ⟨_, _, rfl, _, _, rfl, rfl, ?_⟩
      refine ⟨_, rfl, .inl ⟨rfl, _, SqL.of g2⟩, ?_⟩
      refine ⟨_, rfl, rfl, _, rfl, ?_⟩
      rw [dec_s]
      refine ite2 (fun hz => ?_) (fun hz => ?_)
      · refine ⟨_, rfl, p, l, 2, c + i, rfl, by decide, by decide, P2, by omega, fun r2 H3 _ _ P3 B3 => ⟨rfl, _, rfl, ?_⟩⟩
        have ez : z = "" := of_decide_eq_true hz
        refine ite2 (fun _ => ?_) (fun _ => ?_)
        · have vy : Vv K H3 (.int r) (some (r, z)) := by
            rw [ez]
            exact .int (gd_rank gq)
          obtain ⟨a1, a2⟩ := fin (kv := some (.int r)) (nv := some (.str z)) P3 B3 vy
          exact ⟨_, rfl, g, _, _, rfl, rfl, a1, lx, a2⟩
        · refine ⟨_, rfl, _, rfl, fun x dx h1 h2 h3 => mk h1 h2 h3 fun H4 I4 s4 => ⟨rfl, ?_⟩⟩
          obtain ⟨a1, a2⟩ := fin (kv := some (.int r)) (nv := some (.str z)) (P3.same s4) (B3.trans (But.of s4)) (.item I4)
          exact ⟨g, _, _, rfl, rfl, a1, lx, a2⟩
      · refine ⟨_, rfl, _, rfl, fun x dx h1 h2 h3 => mk h1 h2 h3 fun H4 I4 s4 => ⟨rfl, ?_⟩⟩
        obtain ⟨a1, a2⟩ := fin (kv := some (.int r)) (nv := some (.str z)) ((P2.same s4).mono (by omega)) (But.of s4) (.item I4)
        exact ⟨g, _, _, rfl, rfl, a1, lx, a2⟩
    · rintro σ H2 ⟨kv, nv, xs, rfl, P2, B2, g2, vv⟩
      rw [List.take_of_length_le (by omega)] at vv
      rw [lp] at P2
      exact ⟨_, rfl, k g H2 xs P2 B2 f1 ngp g2 vv⟩
end
end K09
namespace K09
open PySem PySem.Spec PyProof.Rows L2 He Tw
def spTold (K : Fg) : Sp := fun vs H Q _ => ∃ (f : Addr) (ys : List V) (ps : List (Int × Str)), vs = [.ref f] ∧ H f = some (.lst ys) ∧ Its K H ys ps ∧ ys.length ≤ 900 ∧ ∀ (g : Addr) (H' : Hp) (ts : List V), H g = none → Same H H' → H' g = some (.lst ts) → Prs H' ts ps → Q (.ref g) H'
/-- a value that is no item and no rank, beside the pen -/
structure Odd (H : Hp) (p : Addr) (v : V) : Prop where
  bv : ∃ t, Bv H v t
  bad : rankOk v = false
  ne : ∀ a, v = .ref a → a ≠ p
def spOdd : Sp := fun vs H Q _ => ∃ (p l : Addr) (c : Nat), vs = [.ref p] ∧ PenL H p l c ∧ c ≤ 900000 ∧ ∀ (v : V) (H' : Hp), PenL H' p l (c + 1) → But p H H' → Odd H' p v → Q v H'
abbrev s_told : Stmt := topS 36
abbrev N_told : List Str := ["_law_listed", "_law_item"]
theorem sc_told : FnScope N_told ["_law_listed"] (defScope s_told) := ⟨rfl, rfl, rfl, by decide +kernel, rfl, by decide +kernel, by decide +kernel⟩
section
variable {P : Program} {w : World} {K : Fg} {mg : Str → Option Value} {base : Heap}
theorem ok_told {f : Addr} {fd : FuncData} (F : FnP K "_law_told" "_law_told" s_told f fd) (T : Txt K mg) : FnOk P w K mg base CX0 1 f fd ["_law_listed"] (spTold K) := by
  refine F.ok sc_told (fun vs H Q E h => ?_) (fun cdv A outer s H vs Q E hr h => ?_)
  · obtain ⟨f, ys, ps, rfl, _⟩ := h
    rfl
  · obtain ⟨f, ys, ps, rfl, hf, its, hn, k⟩ := h
    refine ⟨_, PSs.nox (pss_one (ps_ret (pe_lc (own := [("_law_item", 1)]) (g := gName 1) (tt := tYes) (by rfl) sc_told.nd (pi_list (pv 0)) (blkOk_by (own := [("_law_item", 1)]) (N := N_told) (sc := defScope s_told) (by decide +kernel)) (fun _ _ _ _ _ => (pg_name (i := 1) sc_told.nd rfl (Or.inl rfl))) (fun _ _ _ _ _ => pts_nil) (fun _ _ _ _ _ => (pe_tupN (pa_cons (fldK K (pv 1)) (pa_cons (fldK K (pv 1)) pa_nil))))))), ?_⟩
    have ln := its_len its
    refine ⟨_, rfl, f, rfl, ⟨ys, SqL.of hf⟩, fun D hD => lc_list (K := K) (a := f) (xs := ys) (fun i H' => Same H H' ∧ ∃ ts, H' D = some (.lst ts) ∧ Prs H' ts (ps.take i)) ⟨same_new hD, [], upd_same, .nil⟩ (fun _ _ _ q => SqL.of (q.1 _ _ hf)) ?_ ?_⟩
    · rintro i x H' hx ⟨sD, ts, gD, prs⟩
      have hi : i < ps.length := by
        have := (List.getElem?_eq_some_iff.mp hx).1
        omega
      obtain ⟨b, eb, Ib⟩ := its_at its (List.getElem?_eq_getElem hi)
      rw [hx] at eb
      cases eb
      obtain ⟨db, hb⟩ := Ib.same sD
      refine ⟨rfl, _, rfl, b, _, db, _, _, rfl, hb, T.cls, T.na (by decide +kernel), rfl, _, rfl, b, _, db, _, _, rfl, hb, T.cls, T.na (by decide +kernel), rfl, sz1000 (by show 2 ≤ 1000; decide), fun t H2 f2 s2 g2 => ?_⟩
      have gD2 := s2 _ _ gD
      have ne : ∀ {a : Addr} {xs : List V}, H2 a = some (.tup xs) → a ≠ D := fun {a xs} e h => by
        rw [h, gD2] at e
        cases e
      refine ⟨_, gD2, ?_, same_upd (sD.trans s2) hD, _, upd_same, ?_⟩
      · have h1 : ts.length = (ps.take i).length := Paired.length prs
        rw [List.length_take] at h1
        exact Nat.lt_of_lt_of_le (show ts.length < 1000 by omega) (by decide)
      · have tk : ps.take (i + 1) = ps.take i ++ [ps[i]] := by rw [List.take_add_one, List.getElem?_eq_getElem hi]; rfl
        rw [tk]
        refine Prs.snoc ((prs.keep fun a xs e => s2 _ _ e).keep fun a xs e => by
          rw [upd_ne (ne e)]
          exact e) ?_
        rw [upd_ne (ne g2)]
        exact g2
    · rintro H' ⟨sD, ts, gD, prs⟩
      rw [List.take_of_length_le (by omega)] at prs
      exact k D H' ts hD sD gD prs
end
end K09
namespace K09
open PySem PySem.Spec PyProof.Rows L2 He Tw
abbrev s_heard : Stmt := topS 37
abbrev N_heard : List Str := ["_law_ask", "_law_caught", "_law_found", "error"]
theorem sc_heard : FnScope N_heard ["_law_ask"] (defScope s_heard) := ⟨rfl, rfl, rfl, by decide +kernel, rfl, by decide +kernel, by decide +kernel⟩
/-- the word that _law_heard tells of an error -/
def wordOf (x : Str) : Str := if x = "BadItem" then "item" else if x = "BadPlace" then "place" else if x = "Disordered" then "order" else "many"
def Eh (K : Fg) (Q : VK) : XK := fun cls d H => ∃ (e : Str × Nat × Str) (v : Int) (dd : Addr), e ∈ errs ∧ cls = .ref (ga K e.1) ∧ d = some dd ∧ H dd = some (.xd [(e.2.2, .int v)]) ∧ ∀ (q : Addr) (H' : Hp), H q = none → Same H H' → H' q = some (.tup [.str (wordOf e.1), .int v]) → Q (.ref q) H'
def TTh (K : Fg) : (XK → Hp → VK → Prop) → Hp → VK → Prop := fun tl H Q => ∀ (E' : XK) (Q' : VK), (∀ cls d H', Eh K Q cls d H' → E' cls d H') → (∀ H1, (∀ (q : Addr) (H' : Hp), H1 q = none → Same H1 H' → H' q = some (.lst [.non]) → Q (.ref q) H') → Q' .non H1) → tl E' H Q'
theorem Txt.kitT {K : Fg} {mg : Str → Option Value} (T : Txt K mg) {e : Str × Nat × Str} (h : e ∈ errs) : PySem.W.kitOne K (.ref (ga K e.1)) (.ref (ga K e.1)) = some true := by
  rw [T.kit h h, decide_eq_true rfl]
theorem Txt.kitF {K : Fg} {mg : Str → Option Value} (T : Txt K mg) {e d : Str × Nat × Str} (h : e ∈ errs) (g : d ∈ errs) (ne : e.1 ≠ d.1) : PySem.W.kitOne K (.ref (ga K e.1)) (.ref (ga K d.1)) = some false := by
  rw [T.kit h g, decide_eq_false ne]
theorem four {α : Type} {l : List α} (h : l.length = 4) : ∃ a b c d, l = [a, b, c, d] := match l, h with
  | [a, b, c, d], _ => ⟨a, b, c, d, rfl⟩
theorem heard_gives {X : Cx} {g : Addr} {cdg : Value} {q : Str} (T : Txt X.K X.mg) (hu : True) : LamX.GivesTo X N_heard "_law_heard" (defScope s_heard) g cdg (defBody s_heard) "_law_ask" q (TTh X.K) := by
  have zisi : X.mg "isinstance" = none := T.bl (by decide +kernel)
  have gH : X.mg "HeadsError" = some (.ref (ga X.K "HeadsError")) := T.cl (by decide +kernel)
  have gI : X.mg "BadItem" = some (.ref (ga X.K "BadItem")) := T.cl (by decide +kernel)
  have gP : X.mg "BadPlace" = some (.ref (ga X.K "BadPlace")) := T.cl (by decide +kernel)
  have gD : X.mg "Disordered" = some (.ref (ga X.K "Disordered")) := T.cl (by decide +kernel)
  have gM : X.mg "TooMany" = some (.ref (ga X.K "TooMany")) := T.cl (by decide +kernel)
  intro f c' s H Q tl act hc h
  have nd : N_heard.Nodup := sc_heard.nd
  refine ⟨_, (pss_cons (ps_set (i := 1) nd rfl (Or.inl rfl) pe_non)
    (pss_cons (ps_set (i := 2) nd rfl (Or.inl rfl) pe_non)
    (pss_cons (ps_tryL (i := 3) (n := "error") (c := .ref (ga X.K "HeadsError")) (tb := fun W D σ H => ∃ Ech : XK, (∀ cls d σ' H', Ech cls d H' → W cls d σ' H') ∧ σ[0]? = some (some (.ref f)) ∧ H c' = some (LamX.CodeO c' q) ∧ tl Ech H fun v H' => D.nx (σ.set 2 (some v)) H') rfl rfl rfl nd rfl rfl ⟨rfl, by decide, .inl gH⟩ LamX.takes0 (fun W pn xe tk _ => ?suite) (fun a oe cls d pn hz hf => pss_one (ps_set (i := 1) nd rfl (Or.inl rfl) (pv 3))))
    (pss_cons (ps_if (pt_val (pe_callB call_isA (by rfl) zisi (by decide +kernel) (pa_cons (pv 1) (pa_cons (pe_glob (v := .ref (ga X.K "BadItem")) rfl gI rfl) pa_nil)))) (pss_one (ps_ret (pe_tupN (pa_cons pe_str (pa_cons (pe_xfld (pv 1)) pa_nil))))) pss_nil)
    (pss_cons (ps_if (pt_val (pe_callB call_isA (by rfl) zisi (by decide +kernel) (pa_cons (pv 1) (pa_cons (pe_glob (v := .ref (ga X.K "BadPlace")) rfl gP rfl) pa_nil)))) (pss_one (ps_ret (pe_tupN (pa_cons pe_str (pa_cons (pe_xfld (pv 1)) pa_nil))))) pss_nil)
    (pss_cons (ps_if (pt_val (pe_callB call_isA (by rfl) zisi (by decide +kernel) (pa_cons (pv 1) (pa_cons (pe_glob (v := .ref (ga X.K "Disordered")) rfl gD rfl) pa_nil)))) (pss_one (ps_ret (pe_tupN (pa_cons pe_str (pa_cons (pe_xfld (pv 1)) pa_nil))))) pss_nil)
    (pss_cons (ps_if (pt_val (pe_callB call_isA (by rfl) zisi (by decide +kernel) (pa_cons (pv 1) (pa_cons (pe_glob (v := .ref (ga X.K "TooMany")) rfl gM rfl) pa_nil)))) (pss_one (ps_ret (pe_tupN (pa_cons pe_str (pa_cons (pe_xfld (pv 1)) pa_nil))))) pss_nil)
    (pss_one (ps_ret (pe_ifExp (pt_cmpR op_isN (pv 1) pe_non (nomark _)) (pe_lstN (pa_cons (pv 2) pa_nil)) (pe_tupN (pa_cons pe_str (pa_cons pe_int pa_nil))))))))))))), ?_⟩
  case suite =>
    refine ⟨fun pins s' σ H' D I h' => ?_⟩
    obtain ⟨Ech, hW, h1, h2, h3⟩ := h'
    exact (pss_one (ps_set (i := 2) nd rfl (Or.inl rfl) (act W pn xe Ech _ _ tk hW))).run pins s' σ H' D I ⟨h1, h2, h3⟩
  · refine ⟨Eh X.K Q, ?_, rfl, hc, h _ _ (fun _ _ _ z => z) fun H1 hq => ?_⟩
    · rintro cls d σ' H' ⟨e, v, dd, he, rfl, rfl, hd, kq⟩ hl
      obtain ⟨w0, w1, w2, w3, rfl⟩ := four (show σ'.length = 4 from hl)
      refine ⟨ga X.K e.1, true, rfl, T.exm he, fun _ er her => ?_, fun z => nomatch z⟩
      have S1 := same_new (o := exT er (ga X.K e.1) (some dd)) her
      have hx : (upd H' er (exT er (ga X.K e.1) (some dd))) er = some (exT er (ga X.K e.1) (some dd)) := upd_same
      have hd2 := S1 _ _ hd
      have ty : TyA X.K (upd H' er (exT er (ga X.K e.1) (some dd))) (.ref er) (.ref (ga X.K e.1)) := .inr ⟨er, _, dd, _, rfl, rfl, .inr hx, .inr hd2, T.xc he, T.xo⟩
      have fin : ∀ (tp : Addr) (H3 : Hp), (upd H' er (exT er (ga X.K e.1) (some dd))) tp = none → Same (upd H' er (exT er (ga X.K e.1) (some dd))) H3 → H3 tp = some (.tup [.str (wordOf e.1), .int v]) → Q (.ref tp) H3 := fun tp H3 f3 s3 g3 => kq tp H3 (S1.free f3) (S1.trans s3) g3
      simp only [errs, List.mem_cons, List.not_mem_nil, or_false] at he
      have m0 : (("BadItem", 5, "part") : Str × Nat × Str) ∈ errs := by decide +kernel
      have m1 : (("BadPlace", 6, "at") : Str × Nat × Str) ∈ errs := by decide +kernel
      have m2 : (("Disordered", 7, "at") : Str × Nat × Str) ∈ errs := by decide +kernel
      have m3 : (("TooMany", 8, "most") : Str × Nat × Str) ∈ errs := by decide +kernel
      rcases he with rfl | rfl | rfl | rfl
      · refine ⟨_, rfl, _, rfl, .ref er, .ref (ga X.K "BadItem"), _, _, _, rfl, .own _, ty, T.kitT m0, _, rfl, ?_⟩
        exact iteT ⟨_, rfl, er, _, dd, _, _, rfl, .inr hx, T.xc m0, T.no m0, .inr hd2, rfl, sz1000 (by show 2 ≤ 1000; decide), fun tp H3 f3 s3 g3 => fin tp H3 f3 s3 g3⟩
      · refine ⟨_, rfl, _, rfl, .ref er, .ref (ga X.K "BadItem"), _, _, _, rfl, .own _, ty, T.kitF m1 m0 (by decide), _, rfl, ?_⟩
        refine iteF ⟨_, rfl, .ref er, .ref (ga X.K "BadPlace"), _, _, _, rfl, .own _, ty, T.kitT m1, _, rfl, ?_⟩
        exact iteT ⟨_, rfl, er, _, dd, _, _, rfl, .inr hx, T.xc m1, T.no m1, .inr hd2, rfl, sz1000 (by show 2 ≤ 1000; decide), fun tp H3 f3 s3 g3 => fin tp H3 f3 s3 g3⟩
      · refine ⟨_, rfl, _, rfl, .ref er, .ref (ga X.K "BadItem"), _, _, _, rfl, .own _, ty, T.kitF m2 m0 (by decide), _, rfl, ?_⟩
        refine iteF ⟨_, rfl, .ref er, .ref (ga X.K "BadPlace"), _, _, _, rfl, .own _, ty, T.kitF m2 m1 (by decide), _, rfl, ?_⟩
        refine iteF ⟨_, rfl, .ref er, .ref (ga X.K "Disordered"), _, _, _, rfl, .own _, ty, T.kitT m2, _, rfl, ?_⟩
        exact iteT ⟨_, rfl, er, _, dd, _, _, rfl, .inr hx, T.xc m2, T.no m2, .inr hd2, rfl, sz1000 (by show 2 ≤ 1000; decide), fun tp H3 f3 s3 g3 => fin tp H3 f3 s3 g3⟩
      · refine ⟨_, rfl, _, rfl, .ref er, .ref (ga X.K "BadItem"), _, _, _, rfl, .own _, ty, T.kitF m3 m0 (by decide), _, rfl, ?_⟩
        refine iteF ⟨_, rfl, .ref er, .ref (ga X.K "BadPlace"), _, _, _, rfl, .own _, ty, T.kitF m3 m1 (by decide), _, rfl, ?_⟩
        refine iteF ⟨_, rfl, .ref er, .ref (ga X.K "Disordered"), _, _, _, rfl, .own _, ty, T.kitF m3 m2 (by decide), _, rfl, ?_⟩
        refine iteF ⟨_, rfl, .ref er, .ref (ga X.K "TooMany"), _, _, _, rfl, .own _, ty, T.kitT m3, _, rfl, ?_⟩
        exact iteT ⟨_, rfl, er, _, dd, _, _, rfl, .inr hx, T.xc m3, T.no m3, .inr hd2, rfl, sz1000 (by show 2 ≤ 1000; decide), fun tp H3 f3 s3 g3 => fin tp H3 f3 s3 g3⟩
    · have kn := T.kind (t := "NoneType") (by decide)
      have k0 := kn.2 _ (show (("BadItem", 5, "part") : Str × Nat × Str) ∈ errs by decide +kernel)
      have k1 := kn.2 _ (show (("BadPlace", 6, "at") : Str × Nat × Str) ∈ errs by decide +kernel)
      have k2 := kn.2 _ (show (("Disordered", 7, "at") : Str × Nat × Str) ∈ errs by decide +kernel)
      have k3 := kn.2 _ (show (("TooMany", 8, "most") : Str × Nat × Str) ∈ errs by decide +kernel)
      refine ⟨_, rfl, .non, .ref (ga X.K "BadItem"), .type "NoneType", _, _, rfl, .own _, .inl (.base .non), k0, _, rfl, ?_⟩
      refine iteF ⟨_, rfl, .non, .ref (ga X.K "BadPlace"), .type "NoneType", _, _, rfl, .own _, .inl (.base .non), k1, _, rfl, ?_⟩
      refine iteF ⟨_, rfl, .non, .ref (ga X.K "Disordered"), .type "NoneType", _, _, rfl, .own _, .inl (.base .non), k2, _, rfl, ?_⟩
      refine iteF ⟨_, rfl, .non, .ref (ga X.K "TooMany"), .type "NoneType", _, _, rfl, .own _, .inl (.base .non), k3, _, rfl, ?_⟩
      refine iteF ⟨_, rfl, rfl, _, rfl, ?_⟩
      exact ⟨_, rfl, sz1000 (by show 1 ≤ 1000; decide), fun q H2 f2 m2 s2 g2 => hq q H2 f2 s2 g2⟩
end K09
/-! Tw: len of an object with its own __len__; a comprehension's rules with the written part named. -/
namespace Tw
open PySem PySem.Spec PyProof.Rows L2
section
variable {X : Cx} {CX : CXT} {k : Nat} {f C : Addr} {fd : FuncData} {ps : List Str} {sp : Sp} {E : XK}
/-- len(x) by x's own __len__ -/
def rLenOwn (C : Addr) (sp : Sp) (E : XK) : List V → Hp → VK → Prop := fun xs H Q => ∃ (a dx : Addr) (fs : List (Str × V)), xs = [.ref a] ∧ H a = some (.ins C dx fs) ∧ sp [.ref a] H (fun z H' => ∃ n : Nat, z = .int (n : Nat) ∧ n < 2 ^ 62 ∧ Q z H') E
theorem call_lenOwn (hs : PySem.W.findIn X.K (.ref C) "__len__" = some (some (.ref f))) (hf : PySem.W.isFn X.K (.ref f) = true) (F : FnOk X.prog X.w X.K X.mg X.base CX k f fd ps sp) (hr : Room (k + 1) X.A) (hb : Binds X.K fd ps []) (hx : Passes CX X E) : CallR X (.builtin "len") (rLenOwn C sp E) := by
  intro pins s σ H xs us Q I r h
  obtain ⟨a, dx, fs, rfl, ea, q⟩ := h
  obtain ⟨u1, rfl, r1⟩ := vals1 r
  cases (show u1 = Value.ref a from r1)
  obtain ⟨od, ox, J⟩ := inst_at I ea
  obtain ⟨m, hF⟩ := I.fr
  refine PySem.W.len_K hF I.ok.mod.kin J hs hf ?_
  refine wpAny_mono (run_in1 F hr hb hx I (.cons r1 .nil) q) (fun w s' z => ?_) fun _ _ x => x
  obtain ⟨z', H', I', rz, n, ez, hn, qz⟩ := z
  subst ez
  obtain ⟨t, rfl⟩ := rz
  exact ⟨⟨Int.natCast_nonneg n, by omega⟩, .int (n : Nat), H', I'.tok _, ⟨_, rfl⟩, qz⟩
end
end Tw
namespace K09
open PySem PySem.Spec PyProof.Rows L2 He Tw
theorem some_inj {α : Type} : ∀ {xs ys : List α}, xs.map some = ys.map some → xs = ys
  | [], [], _ => rfl
  | [], _ :: _, h => nomatch h
  | _ :: _, [], h => nomatch h
  | x :: xs, y :: ys, h => by
    injection h with h1 h2
    rw [Option.some.inj h1, some_inj h2]
/-- a row is made of these -/
theorem row_to {K : Fg} {H : Hp} {q x dx : Addr} {xs : List V} {ps : List (Int × Str)} {R : VK} {E : XK} (hx : H x = none) (hd : H dx = none) (hne : dx ≠ x) (S : Src K H q xs (ps.map some)) (up : Up ps ps.length) (few : ps.length ≤ 200)
    (k : ∀ (H' : Hp) (ys : List V), Same H H' → RowAt K H' x ys → Its K H' ys ps → R .non H') : spRow K [.ref x, .ref q] (upd (upd H dx (.own x)) x (.ins (ga K "Row") dx [])) R E := by
  refine ⟨x, q, dx, xs, ps.map some, rfl, upd_same, S.same (same_made hd hx hne), fun ps' e up' few' H' ys b r i => ?_, fun n f v bad => ?_⟩
  · have ep : ps = ps' := some_inj e
    subst ep
    exact k H' ys (same_but (same_made hd hx hne) b hx) r i
  · cases bad with
    | @item n ps' h1 h2 h3 =>
      rw [List.getElem?_map] at h3
      cases e : ps[n]? with
      | none =>
        rw [e] at h3
        cases h3
      | some p =>
        rw [e] at h3
        cases h3
    | @order m ps' a b h0 h1 h2 h3 h4 =>
      have ep : ps = ps' := some_inj h0
      subst ep
      have lt : m < ps.length := (List.getElem?_eq_some_iff.mp h1).1
      have := up m a b lt h1 h2
      omega
    | @many ps' h0 h1 h2 =>
      have ep : ps = ps' := some_inj h0
      subst ep
      omega
/-- values that stand for pairs, as a row is made of them -/
theorem vals_src {K : Fg} {H : Hp} {q : Addr} {xs : List V} {ps : List (Int × Str)} (hs : Seq K H q xs) (v : Vals' K H xs ps) (few : ps.length ≤ 900) : Src K H q xs (ps.map some) := by
  have l : xs.length = ps.length := Paired.length v
  refine ⟨hs, by omega, by rw [List.length_map, l], ?_⟩
  have go : ∀ {xs : List V} {ps : List (Int × Str)}, Vals' K H xs ps → ∀ (i : Nat) (x : V), xs[i]? = some x → ∃ o : Option (Int × Str), (ps.map some)[i]? = some o ∧ Vv K H x o := by
    intro xs ps v
    induction v with
    | nil => exact fun i x h => nomatch h
    | cons h r ih =>
      intro i x e
      cases i with
      | zero =>
        cases e
        exact ⟨_, rfl, h⟩
      | succ n => exact ih n x e
  exact go v
theorem its_src {K : Fg} {H : Hp} {q : Addr} {ys : List V} {ps : List (Int × Str)} (hs : Seq K H q ys) (v : Its K H ys ps) (few : ps.length ≤ 900) : Src K H q ys (ps.map some) := by
  refine vals_src hs ?_ few
  clear hs few
  induction v with
  | nil => exact .nil
  | cons h r ih =>
    obtain ⟨a, e, i⟩ := h
    subst e
    exact .cons (.item i) ih
abbrev DefsK (K : Fg) (fd : Nat → FuncData) : Prop := DefsA fn K fd
section
variable {P : Program} {w : World} {K : Fg} {mg : Str → Option Value} {base : Heap} {fd : Nat → FuncData}
theorem itm (D : DefsK K fd) (T : Txt K mg) : ∃ d2, Itm P w K mg base (fd 4) d2 := by
  have F : FnI K (ma K (ga K "Item") "__init__") (fd 4) := D 4 _ rfl
  have G : FnOk P w K mg base (L2.CX P w) 3 (ma K (ga K "Item") "__init__") (fd 4) ["self", "rank", "name"] (spItem K) := ok_item (fB := 0) F (D 16 _ rfl) (T.fn (x := "is_rank") (by decide +kernel)) (D 15 _ rfl) (T.fn (x := "is_number") (by decide +kernel)) (D 14 _ rfl) (T.fn (x := "is_lettered") (by decide +kernel)) (D 0 _ rfl) T
  obtain ⟨d1, r1, b1⟩ := FunD.binds1 (ps := ["self", "rank", "name"]) F 3 1 (fun z => nomatch z) rfl fun _ _ _ _ _ _ _ us its h1 h2 => match us, h1, its, h2 with
    | [_, _, _], _, [_], _ => ⟨_, rfl, rfl⟩
  obtain ⟨d2, r2, b2⟩ := FunD.binds1 (ps := ["self", "rank", "name"]) F 2 0 (fun z => nomatch z) rfl fun _ _ _ _ _ _ _ us its h1 h2 => match us, h1, its, h2 with
    | [_, _], _, [_], _ => ⟨_, rfl, rfl⟩
  cases (show Vals [] d1 from r1)
  exact ⟨d2, G, b1, r2, b2⟩
abbrev FRow (K : Fg) (fd : Nat → FuncData) : Prop := FunD K "__init__" "Row.__init__" (defArgs s_row) (defBody s_row) (defScope s_row) [.ref (nilAt K)] [] (ma K (ga K "Row") "__init__") (fd 6)
theorem bRow (D : DefsK K fd) : Binds K (fd 6) ["self", "items"] [] := by
  obtain ⟨d1, r1, b1⟩ := FunD.binds1 (ps := ["self", "items"]) (show FRow K fd from D 6 _ rfl) 2 1 (fun z => nomatch z) rfl fun _ _ _ _ _ _ _ us its h1 h2 => match us, h1, its, h2 with
    | [_, _], _, [_], _ => ⟨_, rfl, rfl⟩
  cases (show Vals [] d1 from r1)
  exact b1
theorem G_as (D : DefsK K fd) (T : Txt K mg) : FnOk P w K mg base (L2.CX P w) 5 (ga K "as_items") (fd 17) ["values"] (spAs K) := by
  obtain ⟨d2, I⟩ := itm (P := P) (w := w) (base := base) D T
  have W : Wlk P w K mg base (fd 7) := ⟨ok_iter (D 7 _ rfl) T, (show FnP K "__iter__" "Row.__iter__" s_iter (ma K (ga K "Row") "__iter__") (fd 7) from D 7 _ rfl).bindsN fun _ _ _ _ _ _ us hl => match us, hl with | [_], _ => rfl⟩
  exact ok_as (D 17 _ rfl) (D 16 _ rfl) (T.fn (x := "is_rank") (by decide +kernel)) (D 15 _ rfl) (T.fn (x := "is_number") (by decide +kernel)) (D 0 _ rfl) I W T
theorem G_row (D : DefsK K fd) (T : Txt K mg) : FnOk P w K mg base (L2.CX P w) 6 (ma K (ga K "Row") "__init__") (fd 6) ["self", "items"] (spRow K) :=
  ok_row (D 6 _ rfl) (D 17 _ rfl) (T.fn (x := "as_items") (by decide +kernel)) (G_as D T)
    (D 18 _ rfl) (T.fn (x := "need_row") (by decide +kernel)) (ok_need (D 18 _ rfl) (D 5 _ rfl) (D 2 _ rfl) (D 3 _ rfl) T) T
end
end K09
namespace Tw
/-- what two rows' items of one rank give by a sign -/
def ofRank {α : Type} (sign : PySem.Str) (xs ys : List α) : List α :=
  if sign = "+" then xs ++ ys else if sign = "|" then xs ++ ys.drop xs.length else if sign = "&" then xs.take ys.length else if sign = "-" then xs.drop ys.length else xs.drop ys.length ++ ys.drop xs.length
theorem ofRank_nil {α : Type} (sign : PySem.Str) : ofRank sign ([] : List α) [] = [] := by
  unfold ofRank
  simp
end Tw
namespace K09
open PySem PySem.Spec PyProof.Rows L2 He Tw
abbrev at_ (r : Int) (ps : List (Int × Str)) : List (Int × Str) := ps.filter fun q => decide (q.1 = r)
/-- the items of rank r -/
def blk : List V → List (Int × Str) → Int → List V
  | y :: ys, p :: ps, r => if p.1 = r then y :: blk ys ps r else blk ys ps r
  | _, _, _ => []
theorem its_blk {K : Fg} {H : Hp} (r : Int) : ∀ {ys : List V} {ps : List (Int × Str)}, Its K H ys ps → Its K H (blk ys ps r) (at_ r ps)
  | _, _, .nil => .nil
  | _, _, .cons (b := p) (l₂ := ps) h t => by
    unfold blk at_
    by_cases e : p.1 = r
    · rw [if_pos e, List.filter_cons_of_pos (p := fun q : Int × Str => decide (q.1 = r)) (decide_eq_true e)]
      exact .cons h (its_blk r t)
    · rw [if_neg e, List.filter_cons_of_neg (p := fun q : Int × Str => decide (q.1 = r)) (fun z => e (of_decide_eq_true z))]
      exact its_blk r t
theorem blk_snoc (r : Int) (y : V) (p : Int × Str) : ∀ {ys : List V} {ps : List (Int × Str)}, ys.length = ps.length → blk (ys ++ [y]) (ps ++ [p]) r = if p.1 = r then blk ys ps r ++ [y] else blk ys ps r
  | [], [], _ => by
    by_cases e : p.1 = r <;> simp [blk, e]
  | [], _ :: _, h => nomatch h
  | _ :: _, [], h => nomatch h
  | a :: ys, q :: ps, h => by
    have ih := blk_snoc r y p (Nat.succ.inj h)
    simp only [List.cons_append, blk, ih]
    by_cases e : q.1 = r <;> by_cases e2 : p.1 = r <;> simp [e, e2]
theorem blk_none {r : Int} : ∀ {ys : List V} {ps : List (Int × Str)}, r ∉ rk ps → blk ys ps r = []
  | [], _, _ => by simp [blk]
  | _ :: _, [], _ => by simp [blk]
  | y :: ys, p :: ps, h => by
    unfold rk at h
    rw [List.map_cons, List.mem_cons, not_or] at h
    unfold blk
    rw [if_neg (fun z => h.1 z.symm)]
    exact blk_none h.2
theorem blk_len (r : Int) : ∀ (ys : List V) (ps : List (Int × Str)), (blk ys ps r).length ≤ ys.length
  | [], _ => by simp [blk]
  | _ :: _, [] => by simp [blk]
  | y :: ys, p :: ps => by
    unfold blk
    have := blk_len r ys ps
    split
    · rw [List.length_cons, List.length_cons]; omega
    · rw [List.length_cons]; omega
/-- the dict at d has for each rank a list of its own with the items -/
structure Grp (H0 H : Hp) (d : Addr) (kvs : List (Key × V)) (ys : List V) (ps : List (Int × Str)) : Prop where
  at_ : H d = some (.dK kvs)
  few : kvs.length ≤ ps.length
  there : ∀ r, r ∈ rk ps → ∃ l, valV kvs (Sum.inl r) = some (.ref l) ∧ H l = some (.lst (blk ys ps r)) ∧ H0 l = none
  not : ∀ r, r ∉ rk ps → valV kvs (Sum.inl r) = none
  inj : ∀ r s l, valV kvs (Sum.inl r) = some (.ref l) → valV kvs (Sum.inl s) = some (.ref l) → r = s
def spBy (K : Fg) : Sp := fun vs H Q _ => ∃ (t : Addr) (ys : List V) (ps : List (Int × Str)), vs = [.ref t] ∧ SqT K H t ys ∧ Its K H ys ps ∧ ps.length ≤ 900 ∧ ∀ (d : Addr) (H' : Hp) (kvs : List (Key × V)), H d = none → Same H H' → Grp H H' d kvs ys ps → Q (.ref d) H'
abbrev s_by : Stmt := topS 21
abbrev N_by : List Str := ["items", "found", "item"]
theorem sc_by : FnScope N_by ["items"] (defScope s_by) := ⟨rfl, rfl, rfl, by decide +kernel, rfl, by decide +kernel, by decide +kernel⟩
theorem rk_snoc {ps : List (Int × Str)} {p : Int × Str} {r : Int} : r ∈ rk (ps ++ [p]) ↔ r ∈ rk ps ∨ r = p.1 := by
  unfold rk
  rw [List.map_append, List.mem_append]
  simp
section
variable {P : Program} {w : World} {K : Fg} {mg : Str → Option Value} {base : Heap} {fd : Nat → FuncData}
theorem ok_by {f : Addr} {fd : FuncData} (F : FnP K "by_rank" "by_rank" s_by f fd) (T : Txt K mg) : FnOk P w K mg base CX0 1 f fd ["items"] (spBy K) := by
  refine F.ok sc_by (fun vs H Q E h => ?_) (fun cdv A outer s H vs Q E hr h => ?_)
  · obtain ⟨t, ys, ps, rfl, _⟩ := h
    rfl
  · obtain ⟨t, ys, ps, rfl, ht, its, hn, k⟩ := h
    refine ⟨_, PSs.nox (pss_cons (ps_set (i := 1) sc_by.nd rfl (Or.inl rfl) pe_dnewN)
    (pss_cons (ps_for PassesOwn.never rfl (pi_tup (pv 0)) (pg_name (i := 2) sc_by.nd rfl (Or.inl rfl))
    (pss_one (ps_expr (pe_bm PySem.F.plainAttrs_list PySem.F.slot_list_append PySem.F.type_list_append mt_append (pe_dsetd (pv 1) (pe_fld (pv 2) rfl) (pe_lstN pa_nil) ⟨rfl, rfl, rfl, rfl⟩) (pa_cons (pv 2) pa_nil)))))
    (pss_one (ps_ret (pv 1))))), ?_⟩
    have ll := its_len its
    intro d H1 f1 m1 s1 g1
    dsimp only [gName]
    unfold tSeq
    refine ⟨_, rfl, t, rfl, ⟨_, sqT_same s1 ht⟩, for_tup (K := K) (a := t) (xs := ys) (fun i σ H' => ∃ v kvs, σ = [some (.ref t), some (.ref d), v] ∧ Same H H' ∧ Grp H H' d kvs (ys.take i) (ps.take i)) ⟨none, [], rfl, s1, ⟨g1, Nat.zero_le _, (fun r hr => nomatch hr), (fun _ _ => rfl), (fun r s l h => nomatch h)⟩⟩ (fun i σ H' _ ⟨_, _, _, s', _⟩ => sqT_same s' ht) ?_ ?_⟩
    · rintro i x σ H2 hx ⟨v, kvs, rfl, s2, G⟩
      have hi : i < ys.length := (List.getElem?_eq_some_iff.mp hx).1
      have ep : ps[i]? = some ps[i] := List.getElem?_eq_getElem (by omega)
      obtain ⟨a, ea, ⟨dx, ha⟩⟩ := its_at its ep
      rw [hx] at ea
      cases ea
      have ha2 := s2 _ _ ha
      have ty : ys.take (i + 1) = ys.take i ++ [V.ref a] := by rw [List.take_add_one, hx]; rfl
      have tp : ps.take (i + 1) = ps.take i ++ [ps[i]] := by rw [List.take_add_one, ep]; rfl
      have lti : (ys.take i).length = (ps.take i).length := by rw [List.length_take, List.length_take, ll]
      have hsz : kvs.length < sizeLine := Nat.lt_of_le_of_lt G.few (Nat.lt_of_lt_of_le (show (ps.take i).length < 1000 by rw [List.length_take]; omega) (by decide))
      refine ⟨_, rfl, d, rfl, .inl ⟨kvs, .inl G.at_⟩, _, rfl, a, _, dx, _, .int ps[i].1, rfl, ha2, T.cls, T.na (by decide +kernel), rfl, sz1000 (by show 0 ≤ 1000; decide), fun l0 H3 f3 m3 s3 g3 => ⟨kvs, Sum.inl ps[i].1, s3 _ _ G.at_, rfl, hsz, fun v hv => ?_, fun hv => ?_⟩⟩
      · have hm : ps[i].1 ∈ rk (ps.take i) := Classical.byContradiction fun z => by
          rw [G.not _ z] at hv
          cases hv
        obtain ⟨l, e1, gl, nl⟩ := G.there _ hm
        rw [e1] at hv
        cases hv
        have gl3 := s3 _ _ gl
        have dl : d ≠ l := fun z => by
          have q := G.at_
          rw [z, gl] at q
          cases q
        refine ⟨.inl ⟨rfl, _, SqL.of gl3⟩, _, rfl, l, _, _, rfl, rfl, gl3, ?_, ?_⟩
        · exact Nat.lt_of_le_of_lt (blk_len _ _ _) (Nat.lt_of_lt_of_le (show (ys.take i).length < 1000 by rw [List.length_take]; omega) (by decide))
        · refine ⟨_, kvs, rfl, same_upd (s2.trans s3) nl, ⟨by rw [upd_ne dl]; exact s3 _ _ G.at_, by rw [tp, List.length_append]; have := G.few; omega, fun r hr => ?_, fun r hr => ?_, G.inj⟩⟩
          · by_cases e : ps[i].1 = r
            · subst e
              exact ⟨l, e1, by rw [upd_same, ty, tp, blk_snoc _ _ _ lti, if_pos rfl], nl⟩
            · rw [tp] at hr
              rcases rk_snoc.mp hr with hr | hr
              · obtain ⟨l', q1, q2, q3⟩ := G.there r hr
                have n : l' ≠ l := fun z => e (G.inj _ _ l e1 (by rw [← z]; exact q1))
                exact ⟨l', q1, by rw [upd_ne n, ty, tp, blk_snoc _ _ _ lti, if_neg e]; exact s3 _ _ q2, q3⟩
              · exact absurd hr.symm e
          · rw [tp] at hr
            exact G.not r fun z => hr (rk_snoc.mpr (.inl z))
      · have hm : ps[i].1 ∉ rk (ps.take i) := fun z => by
          obtain ⟨l, e1, _⟩ := G.there _ z
          rw [hv] at e1
          cases e1
        have d0 : d ≠ l0 := ne_of_none G.at_ f3
        have g4 : (upd H3 d (.dK (putK kvs (Sum.inl ps[i].1) (V.ref l0)))) l0 = some (.lst []) := by
          rw [upd_ne d0.symm]
          exact g3
        have h0 : H l0 = none := by
          cases q : H l0 with
          | none => rfl
          | some o =>
            rw [s2 _ _ q] at f3
            cases f3
        refine ⟨.inl ⟨rfl, _, SqL.of g4⟩, _, rfl, l0, _, _, rfl, rfl, g4, by show 0 < sizeLine; decide, ?_⟩
        refine ⟨_, _, rfl, same_upd (same_upd (s2.trans s3) f1) h0, ⟨by rw [upd_ne d0]; exact upd_same, ?_, fun r hr => ?_, fun r hr => ?_, fun r s l q1 q2 => ?_⟩⟩
        · have := length_putK kvs (Sum.inl ps[i].1) (V.ref l0)
          have := G.few
          rw [tp, List.length_append, List.length_singleton]
          omega
        · rw [valV_put]
          by_cases e : ps[i].1 = r
          · subst e
            exact ⟨l0, if_pos rfl, by rw [upd_same, ty, tp, blk_snoc _ _ _ lti, if_pos rfl, blk_none hm], h0⟩
          · rw [tp] at hr
            rcases rk_snoc.mp hr with hr | hr
            · obtain ⟨l', q1, q2, q3⟩ := G.there r hr
              have n1 : l' ≠ l0 := ne_of_none q2 f3
              have n2 : l' ≠ d := fun z => by
                have q := G.at_
                rw [← z, q2] at q
                cases q
              exact ⟨l', by rw [if_neg (fun z => e (Sum.inl.inj z).symm)]; exact q1, by rw [upd_ne n1, upd_ne n2, ty, tp, blk_snoc _ _ _ lti, if_neg e]; exact s3 _ _ q2, q3⟩
            · exact absurd hr.symm e
        · rw [tp] at hr
          rw [valV_put, if_neg (fun z => hr (rk_snoc.mpr (.inr (Sum.inl.inj z))))]
          exact G.not r fun z => hr (rk_snoc.mpr (.inl z))
        · have no : ∀ t, valV kvs (Sum.inl t) ≠ some (.ref l0) := fun t z => by
            have ht : t ∈ rk (ps.take i) := Classical.byContradiction fun y => by
              rw [G.not _ y] at z
              cases z
            obtain ⟨l', w1, w2, _⟩ := G.there t ht
            rw [w1] at z
            cases z
            rw [f3] at w2
            cases w2
          rw [valV_put] at q1 q2
          by_cases e1 : (Sum.inl r : Key) = Sum.inl ps[i].1 <;> by_cases e2 : (Sum.inl s : Key) = Sum.inl ps[i].1
          · rw [Sum.inl.inj e1, Sum.inl.inj e2]
          · rw [if_pos e1] at q1
            rw [if_neg e2] at q2
            cases q1
            exact absurd q2 (no s)
          · rw [if_neg e1] at q1
            rw [if_pos e2] at q2
            cases q2
            exact absurd q1 (no r)
          · rw [if_neg e1] at q1
            rw [if_neg e2] at q2
            exact G.inj _ _ _ q1 q2
    · rintro σ H2 ⟨v, kvs, rfl, s2, G⟩
      rw [List.take_of_length_le (Nat.le_refl _), List.take_of_length_le (by omega)] at G
      exact ⟨_, rfl, k d H2 kvs f1 s2 G⟩
end
end K09
namespace Tw
open PySem PySem.Spec PyProof.Rows L2 He
/-- t + u, a tuple of both -/
def rCatU (K : Fg) : R2 := fun x y H Q => ∃ a b xs ys, x = .ref a ∧ y = .ref b ∧ SqT K H a xs ∧ SqT K H b ys ∧ xs.length + ys.length ≤ sizeLine ∧ ∀ (c : Addr) (H' : Hp), Same H H' → SqT K H' c (xs ++ ys) → Q (.ref c) H'
theorem op_catU {X : Cx} : OpR X (binaryOp .Add) (rCatU X.K) := by
  intro pins s σ H x y v u Q I rx ry h
  obtain ⟨a, b, xs, ys, e1, e2, ha, hb, hz, q⟩ := h
  have rf : Same H H := fun _ _ e => e
  refine op_catA pins s σ H x y v u Q I rx ry ⟨a, b, xs, ys, e1, e2, ha, hb, hz, fun z => ?_, fun _ z => ?_, fun _ _ p hp => q p _ (same_new hp) (SqT.of upd_same)⟩
  · subst z
    exact q b H rf hb
  · subst z
    refine q a H rf ?_
    rw [List.append_nil]
    exact ha
theorem paired_take {α β : Type} {F : α → β → Prop} : ∀ {xs : List α} {ys : List β} (n : Nat), Paired F xs ys → Paired F (xs.take n) (ys.take n)
  | _, _, 0, _ => by rw [List.take_zero, List.take_zero]; exact .nil
  | _, _, _ + 1, .nil => .nil
  | _, _, n + 1, .cons h t => .cons h (paired_take n t)
theorem paired_drop {α β : Type} {F : α → β → Prop} : ∀ {xs : List α} {ys : List β} (n : Nat), Paired F xs ys → Paired F (xs.drop n) (ys.drop n)
  | _, _, 0, h => h
  | _, _, _ + 1, .nil => .nil
  | _, _, n + 1, .cons _ t => paired_drop n t
theorem paired_app {α β : Type} {F : α → β → Prop} {zs : List α} {us : List β} (h : Paired F zs us) : ∀ {xs : List α} {ys : List β}, Paired F xs ys → Paired F (xs ++ zs) (ys ++ us)
  | _, _, .nil => h
  | _, _, .cons a t => .cons a (paired_app h t)
theorem paired_ofRank {α β : Type} {F : α → β → Prop} {xs zs : List α} {ys us : List β} (sign : Str) (h : Paired F xs ys) (g : Paired F zs us) : Paired F (ofRank sign xs zs) (ofRank sign ys us) := by
  have e1 : xs.length = ys.length := Paired.length h
  have e2 : zs.length = us.length := Paired.length g
  unfold ofRank
  rw [e1, e2]
  split
  · exact paired_app g h
  · split
    · exact paired_app (paired_drop _ g) h
    · split
      · exact paired_take _ h
      · split
        · exact paired_drop _ h
        · exact paired_app (paired_drop _ g) (paired_drop _ h)
theorem ofRank_len {α : Type} (sign : Str) (xs ys : List α) : (ofRank sign xs ys).length ≤ xs.length + ys.length := by
  unfold ofRank
  split
  · rw [List.length_append]
    exact Nat.le_refl _
  · split
    · rw [List.length_append, List.length_drop]; omega
    · split
      · rw [List.length_take]; omega
      · split
        · rw [List.length_drop]; omega
        · rw [List.length_append, List.length_drop, List.length_drop]; omega
end Tw
namespace K09
open PySem PySem.Spec PyProof.Rows L2 He Tw
theorem Grp.same {H0 H H' : Hp} {d : Addr} {kvs : List (Key × V)} {ys : List V} {ps : List (Int × Str)} (G : Grp H0 H d kvs ys ps) (e : Same H H') : Grp H0 H' d kvs ys ps :=
  ⟨e _ _ G.at_, G.few, fun r hr => by
    obtain ⟨l, h1, h2, h3⟩ := G.there r hr
    exact ⟨l, h1, e _ _ h2, h3⟩, G.not, G.inj⟩
/-- what d.get(r, []) gives -/
theorem Grp.get {H0 H : Hp} {d e : Addr} {kvs : List (Key × V)} {ys : List V} {ps : List (Int × Str)} (G : Grp H0 H d kvs ys ps) (r : Int) (he : H e = some (.lst [])) : ∃ l, (valV kvs (Sum.inl r)).getD (.ref e) = V.ref l ∧ H l = some (.lst (blk ys ps r)) := by
  by_cases hr : r ∈ rk ps
  · obtain ⟨l, h1, h2, _⟩ := G.there r hr
    exact ⟨l, by rw [h1]; rfl, h2⟩
  · exact ⟨e, by rw [G.not r hr]; rfl, by rw [blk_none hr]; exact he⟩
def spOfRank : Sp := fun vs H Q _ => ∃ (sign : Str) (a b : Addr) (xs ys : List V), vs = [.str sign, .ref a, .ref b] ∧ H a = some (.lst xs) ∧ H b = some (.lst ys) ∧ xs.length ≤ 900 ∧ ys.length ≤ 900 ∧ ∀ (l : Addr) (H' : Hp), Same H H' → H' l = some (.lst (ofRank sign xs ys)) → Q (.ref l) H'
abbrev s_tor : Stmt := topS 23
abbrev N_tor : List Str := ["sign", "left", "right", "left_over", "right_over"]
theorem sc_tor : FnScope N_tor ["sign", "left", "right"] (defScope s_tor) := ⟨rfl, rfl, rfl, by decide +kernel, rfl, by decide +kernel, by decide +kernel⟩
section
variable {P : Program} {w : World} {K : Fg} {mg : Str → Option Value} {base : Heap} {fd : Nat → FuncData}
theorem ok_tor {f : Addr} {fd : FuncData} (F : FnP K "taken_of_rank" "taken_of_rank" s_tor f fd) (T : Txt K mg) : FnOk P w K mg base CX0 1 f fd ["sign", "left", "right"] spOfRank := by
  have zlen : mg "len" = none := T.bl (by decide +kernel)
  refine F.ok sc_tor (fun vs H Q E h => ?_) (fun cdv A outer s H vs Q E hr h => ?_)
  · obtain ⟨sign, a, b, xs, ys, rfl, _⟩ := h
    rfl
  · obtain ⟨sign, a, b, xs, ys, rfl, ha, hb, lx, ly, k⟩ := h
    refine ⟨_, PSs.nox (pss_cons (ps_set (i := 3) sc_tor.nd rfl (Or.inl rfl) (pe_slice sl_listN (pv 1) (po_some (pe_callB call_len (by rfl) zlen (by decide +kernel) (pa_cons (pv 2) pa_nil))) po_none))
    (pss_cons (ps_set (i := 4) sc_tor.nd rfl (Or.inl rfl) (pe_slice sl_listN (pv 2) (po_some (pe_callB call_len (by rfl) zlen (by decide +kernel) (pa_cons (pv 1) pa_nil))) po_none))
    (pss_cons (ps_if (pt_cmpR op_eq (pv 0) pe_str (nomark _)) (pss_one (ps_ret (pe_op op_catN (pv 1) (pv 2)))) pss_nil)
    (pss_cons (ps_if (pt_cmpR op_eq (pv 0) pe_str (nomark _)) (pss_one (ps_ret (pe_op op_catN (pv 1) (pv 4)))) pss_nil)
    (pss_cons (ps_if (pt_cmpR op_eq (pv 0) pe_str (nomark _)) (pss_one (ps_ret (pe_slice sl_listN (pv 1) po_none (po_some (pe_callB call_len (by rfl) zlen (by decide +kernel) (pa_cons (pv 2) pa_nil)))))) pss_nil)
    (pss_cons (ps_if (pt_cmpR op_eq (pv 0) pe_str (nomark _)) (pss_one (ps_ret (pv 3))) pss_nil)
    (pss_one (ps_ret (pe_op op_catN (pv 3) (pv 4)))))))))), ?_⟩
    refine ⟨_, rfl, _, rfl, _, _, rfl, .inl ⟨_, SqL.of hb, rfl⟩, _, rfl, a, xs, rfl, SqL.of ha, fun l1 H1 f1 s1 g1 => ?_⟩
    rw [cutDrop] at g1
    refine ⟨_, rfl, _, rfl, _, _, rfl, .inl ⟨_, SqL.of (s1 _ _ ha), rfl⟩, _, rfl, b, ys, rfl, SqL.of (s1 _ _ hb), fun l2 H2 f2 s2 g2 => ?_⟩
    rw [cutDrop] at g2
    have s12 := s1.trans s2
    have ha2 := s12 _ _ ha
    have hb2 := s12 _ _ hb
    have g12 := s2 _ _ g1
    have ld1 : (xs.drop ys.length).length ≤ 900 := by rw [List.length_drop]; omega
    have ld2 : (ys.drop xs.length).length ≤ 900 := by rw [List.length_drop]; omega
    have lim : ∀ {n m : Nat}, n ≤ 900 → m ≤ 900 → n + m ≤ sizeLine := fun {n m} h1 h2 => Nat.le_trans (show n + m ≤ 1800 by omega) (by decide)
    refine ⟨_, rfl, rfl, _, rfl, ?_⟩
    refine ite2 (fun hz => ?_) (fun h1 => ?_)
    · have e : sign = "+" := by rw [dec_s] at hz; exact of_decide_eq_true hz
      refine ⟨_, rfl, _, rfl, a, b, _, _, rfl, rfl, ha2, hb2, lim lx ly, fun l3 H3 f3 m3 s3 g3 => k l3 H3 (s12.trans s3) ?_⟩
      rw [g3, e]
      rfl
    have n1 : sign ≠ "+" := fun e => h1 (by rw [e]; rfl)
    refine ⟨_, rfl, rfl, _, rfl, ?_⟩
    refine ite2 (fun hz => ?_) (fun h2 => ?_)
    · have e : sign = "|" := by rw [dec_s] at hz; exact of_decide_eq_true hz
      refine ⟨_, rfl, _, rfl, a, l2, _, _, rfl, rfl, ha2, g2, lim lx ld2, fun l3 H3 f3 m3 s3 g3 => k l3 H3 (s12.trans s3) ?_⟩
      rw [g3, e]
      rfl
    have n2 : sign ≠ "|" := fun e => h2 (by rw [e]; rfl)
    refine ⟨_, rfl, rfl, _, rfl, ?_⟩
    refine ite2 (fun hz => ?_) (fun h3 => ?_)
    · have e : sign = "&" := by rw [dec_s] at hz; exact of_decide_eq_true hz
      refine ⟨_, rfl, _, rfl, _, _, rfl, .inl ⟨_, SqL.of hb2, rfl⟩, _, rfl, a, xs, rfl, SqL.of ha2, fun l3 H3 f3 s3 g3 => k l3 H3 (s12.trans s3) ?_⟩
      rw [cutTake] at g3
      rw [g3, e]
      rfl
    have n3 : sign ≠ "&" := fun e => h3 (by rw [e]; rfl)
    refine ⟨_, rfl, rfl, _, rfl, ?_⟩
    refine ite2 (fun hz => ?_) (fun h4 => ?_)
    · have e : sign = "-" := by rw [dec_s] at hz; exact of_decide_eq_true hz
      refine ⟨_, rfl, k l1 H2 s12 ?_⟩
      rw [g12, e]
      rfl
    have n4 : sign ≠ "-" := fun e => h4 (by rw [e]; rfl)
    refine ⟨_, rfl, _, rfl, l1, l2, _, _, rfl, rfl, g12, g2, lim ld1 ld2, fun l3 H3 f3 m3 s3 g3 => k l3 H3 (s12.trans s3) ?_⟩
    rw [g3]
    unfold ofRank
    rw [if_neg n1, if_neg n2, if_neg n3, if_neg n4]
end
end K09
namespace K09
open PySem PySem.Spec PyProof.Rows L2 He Tw
/-- what two rows give by a sign: ns their ranks, ascending -/
def takenL (sign : Str) (ps qs : List (Int × Str)) (ns : List Int) : List (Int × Str) := (ns.map fun r => ofRank sign (at_ r ps) (at_ r qs)).flatten
theorem takenL_snoc (sign : Str) (ps qs : List (Int × Str)) (ns : List Int) (r : Int) : takenL sign ps qs (ns ++ [r]) = takenL sign ps qs ns ++ ofRank sign (at_ r ps) (at_ r qs) := by
  unfold takenL
  rw [List.map_append, List.flatten_append]
  simp
/-- the ranks of both, strictly ascending -/
structure Rks (ps qs : List (Int × Str)) (ns : List Int) : Prop where
  asc : ns.Pairwise (· < ·)
  mem : ∀ k, k ∈ ns ↔ k ∈ rk ps ∨ k ∈ rk qs
/-- fewer than 64 ranks -/
def Few (ps qs : List (Int × Str)) : Prop := ∀ rs : List Int, rs.Nodup → (∀ r ∈ rs, r ∈ rk ps ∨ r ∈ rk qs) → rs.length < 64
def spTaken (K : Fg) : Sp := fun vs H Q _ => ∃ (sign : Str) (a b : Addr) (ys zs : List V) (ps qs : List (Int × Str)), vs = [.str sign, .ref a, .ref b] ∧ SqT K H a ys ∧ Its K H ys ps ∧ ps.length ≤ 400 ∧ SqT K H b zs ∧ Its K H zs qs ∧ qs.length ≤ 400 ∧ Few ps qs ∧
  ∀ (l : Addr) (H' : Hp) (us : List V) (ns : List Int), Same H H' → H l = none → H' l = some (.lst us) → Rks ps qs ns → Its K H' us (takenL sign ps qs ns) → Q (.ref l) H'
abbrev s_taken : Stmt := topS 22
abbrev N_taken : List Str := ["sign", "left", "right", "of_left", "of_right", "found", "rank", "item"]
theorem sc_taken : FnScope N_taken ["sign", "left", "right"] (defScope s_taken) := ⟨rfl, rfl, rfl, by decide +kernel, rfl, by decide +kernel, by decide +kernel⟩
theorem rk_app {ps qs : List (Int × Str)} {k : Int} : k ∈ rk (ps ++ qs) ↔ k ∈ rk ps ∨ k ∈ rk qs := by
  unfold rk
  rw [List.map_append, List.mem_append]
section
variable {P : Program} {w : World} {K : Fg} {mg : Str → Option Value} {base : Heap} {fd : Nat → FuncData}
theorem ok_taken {f fB fR : Addr} {fd fdB fdR : FuncData} (F : FnP K "taken" "taken" s_taken f fd) (FB : FnP K "by_rank" "by_rank" s_by fB fdB) (gB : mg "by_rank" = some (.ref fB)) (FR : FnP K "taken_of_rank" "taken_of_rank" s_tor fR fdR) (gR : mg "taken_of_rank" = some (.ref fR)) (T : Txt K mg) :
    FnOk P w K mg base CX0 2 f fd ["sign", "left", "right"] (spTaken K) := by
  have zsorted : mg "sorted" = none := T.bl (by decide +kernel)
  have GB : FnOk P w K mg base CX0 1 fB fdB ["items"] (spBy K) := ok_by FB T
  have GR : FnOk P w K mg base CX0 1 fR fdR ["sign", "left", "right"] spOfRank := ok_tor FR T
  have bB : Binds K fdB ["items"] [] := FB.bindsN fun _ _ _ _ _ _ us hl => match us, hl with | [_], _ => rfl
  have bR : Binds K fdR ["sign", "left", "right"] [] := FR.bindsN fun _ _ _ _ _ _ us hl => match us, hl with | [_, _, _], _ => rfl
  refine F.ok sc_taken (fun vs H Q E h => ?_) (fun cdv A outer s H vs Q E hr h => ?_)
  · obtain ⟨sign, a, b, ys, zs, ps, qs, rfl, _⟩ := h
    rfl
  · obtain ⟨sign, a, b, ys, zs, ps, qs, rfl, ha, ia, la, hb, ib, lb, few, k⟩ := h
    refine ⟨_, PSs.nox (pss_cons (ps_set (i := 3) sc_taken.nd rfl (Or.inl rfl) (pe_call GB (hr.mono (by decide)) rfl gB FB.kp bB .nil pass0 (pa_cons (pv 1) pa_nil)))
    (pss_cons (ps_set (i := 4) sc_taken.nd rfl (Or.inl rfl) (pe_call GB (hr.mono (by decide)) rfl gB FB.kp bB .nil pass0 (pa_cons (pv 2) pa_nil)))
    (pss_cons (ps_set (i := 5) sc_taken.nd rfl (Or.inl rfl) (pe_lstN pa_nil))
    (pss_cons (ps_for PassesOwn.never rfl (pi_list (pe_callB (cr_sortedSet rfl) (by rfl) zsorted (by decide +kernel) (pa_cons (pe_setc (own := [("item", 7)]) (g := gName 7) (tt := tYes) newInts addInts rfl sc_taken.nd (pi_tup (pe_op op_catU (pv 1) (pv 2))) (blkOk_by (own := [("item", 7)]) (N := N_taken) (sc := defScope s_taken) (by decide +kernel)) (fun _ _ _ _ _ => pg_name (i := 7) sc_taken.nd rfl (Or.inl rfl)) (fun _ _ _ _ _ => pts_nil) (fun _ _ _ _ _ => fldK K (pv 7))) pa_nil))) (pg_name (i := 6) sc_taken.nd rfl (Or.inl rfl))
    (pss_one (ps_expr (pe_bm PySem.F.plainAttrs_list PySem.F.slot_list_extend PySem.F.type_list_extend mt_extend (pv 5) (pa_cons (pe_call GR (hr.mono (by decide)) rfl gR FR.kp bR .nil pass0 (pa_cons (pv 0) (pa_cons (pe_dget2 (hu_of hr) (pv 3) (pv 6) (pe_lstN pa_nil) ⟨rfl, rfl, rfl, rfl⟩) (pa_cons (pe_dget2 (hu_of hr) (pv 4) (pv 6) (pe_lstN pa_nil) ⟨rfl, rfl, rfl, rfl⟩) pa_nil)))) pa_nil)))))
    (pss_one (ps_ret (pv 5))))))), ?_⟩
    have lla := its_len ia
    have llb := its_len ib
    refine ⟨_, rfl, a, ys, ps, rfl, ha, ia, by omega, fun d1 H1 kvs1 f1 s1 G1 => ?_⟩
    refine ⟨_, rfl, b, zs, qs, rfl, sqT_same s1 hb, ib.same s1, by omega, fun d2 H2 kvs2 f2 s2 G2 => ?_⟩
    have s02 := s1.trans s2
    refine ⟨sz1000 (by show 0 ≤ 1000; decide), fun l H3 f3 m3 s3 g3 => ?_⟩
    have s03 := s02.trans s3
    dsimp only [gName]
    unfold tSeq
    have lys : ys.length + zs.length ≤ sizeLine := Nat.le_trans (show ys.length + zs.length ≤ 1000 by omega) (by decide)
    refine ⟨_, rfl, _, rfl, a, b, ys, zs, rfl, rfl, sqT_same s03 ha, sqT_same s03 hb, lys, fun c4 H4 s4 g4 => ⟨c4, rfl, ⟨_, g4⟩, fun D hD => ?_⟩⟩
    have s04 := s03.trans s4
    have iab : Its K H4 (ys ++ zs) (ps ++ qs) := paired_app (ib.same s04) (ia.same s04)
    have lab : (ps ++ qs).length = ps.length + qs.length := List.length_append
    have hl0 : H l = none := by
      cases q : H l with
      | none => rfl
      | some o =>
        rw [s02 _ _ q] at f3
        cases f3
    refine setc_tup (o0 := fun D => SetO w D (fun _ => false) 0) (ad := adInt w) (K := K) (a := c4) (xs := ys ++ zs) (fun i H' => Same H4 H' ∧ ∃ (S : Int → Bool) (rs : List Int), H' D = some (SetO w D S rs.length) ∧ rs.Nodup ∧ (∀ k, k ∈ rs ↔ S k = true) ∧ (∀ k, k ∈ rs ↔ k ∈ rk ((ps ++ qs).take i)) ∧ rs.length ≤ i)
      ⟨same_new hD, fun _ => false, [], (show (upd H4 D (SetO w D (fun _ => false) 0)) D = some (SetO w D (fun _ => false) ([] : List Int).length) from upd_same), .nil, (fun _ => ⟨(fun z => nomatch z), (fun z => nomatch z)⟩), (fun _ => ⟨(fun z => nomatch z), (fun z => nomatch z)⟩), Nat.le_refl _⟩ (fun i H' _ q => sqT_same q.1 g4) ?_ ?_
    · rintro i x H5 hx ⟨s5, S, rs, gD, nd, m1, m2, ln⟩
      have hi : i < (ys ++ zs).length := (List.getElem?_eq_some_iff.mp hx).1
      have li : (ys ++ zs).length = (ps ++ qs).length := Paired.length iab
      have ep : (ps ++ qs)[i]? = some (ps ++ qs)[i] := List.getElem?_eq_getElem (by omega)
      obtain ⟨c, ec, ⟨dx, hc⟩⟩ := its_at iab ep
      rw [hx] at ec
      cases ec
      have lt : rs.length + 1 < scanBound := Nat.lt_of_lt_of_le (show rs.length + 1 < 1000 by omega) (by decide)
      refine ⟨rfl, _, rfl, c, _, dx, _, .int (ps ++ qs)[i].1, rfl, s5 _ _ hc, T.cls, T.na (by decide +kernel), rfl, _, S, _, rfl, gD, lt, same_upd s5 hD, fun j => S j || decide (j = (ps ++ qs)[i].1), if S (ps ++ qs)[i].1 = true then rs else rs ++ [(ps ++ qs)[i].1], ?_, ?_, fun j => ?_, fun j => ?_, ?_⟩
      · rw [upd_same]
        split
        · rfl
        · exact congrArg (fun n => some (SetO w D (fun j => S j || decide (j = (ps ++ qs)[i].1)) n)) (List.length_append (as := rs) (bs := [(ps ++ qs)[i].1])).symm
      · split
        · exact nd
        · rename_i h
          refine List.nodup_append.mpr ⟨nd, List.pairwise_singleton _ _, fun a ha b hb e => h ?_⟩
          rw [List.mem_singleton.mp hb] at e
          exact (m1 _).mp (by rw [← e]; exact ha)
      · split
        · rename_i h
          rw [m1 j]
          by_cases e : j = (ps ++ qs)[i].1
          · subst e
            simp [h]
          · simp [e]
        · rw [List.mem_append, List.mem_singleton, m1 j, Bool.or_eq_true, decide_eq_true_eq]
      · rw [List.take_add_one, ep]
        show _ ↔ j ∈ rk ((ps ++ qs).take i ++ [(ps ++ qs)[i]])
        rw [rk_snoc, ← m2 j]
        split
        · rename_i h
          refine ⟨.inl, fun z => z.elim id fun e => ?_⟩
          rw [e]
          exact (m1 _).mpr h
        · rw [List.mem_append, List.mem_singleton]
      · split
        · omega
        · rw [List.length_append]
          show rs.length + 1 ≤ _
          omega
    · rintro H5 ⟨s5, S, rs, gD, nd, m1, m2, ln⟩
      have li : (ys ++ zs).length = (ps ++ qs).length := Paired.length iab
      rw [li, List.take_of_length_le (Nat.le_refl _)] at m2
      have mm : ∀ k, k ∈ rs ↔ k ∈ rk ps ∨ k ∈ rk qs := fun k => (m2 k).trans rk_app
      refine ⟨D, S, rs.length, rfl, gD, few rs nd fun r hr => (mm r).mp hr, fun ns p asc mem len hp => ?_⟩
      have R : Rks ps qs ns := ⟨asc, fun k => by rw [mem k, ← m1 k, mm k]⟩
      have s6 := same_new (o := .lst (ns.map V.int)) hp
      have g6 : (upd H5 p (.lst (ns.map V.int))) p = some (.lst (ns.map V.int)) := upd_same
      generalize upd H5 p (.lst (ns.map V.int)) = H6 at s6 g6 ⊢
      have s46 := s5.trans s6
      have s26 : Same H2 H6 := s3.trans (s4.trans s46)
      have gl6 : H6 l = some (.lst []) := (s4.trans s46) _ _ g3
      have hpl : p ≠ l := fun z => by
        rw [z, (s4.trans s5) _ _ g3] at hp
        cases hp
      have nsl : ns.length < 64 := few ns (asc.imp fun h => Int.ne_of_lt h) fun r hr => (R.mem r).mp hr
      refine ⟨p, rfl, ⟨_, SqL.of g6⟩, for_list (K := K) (a := p) (xs := ns.map V.int) (fun i σ H' => ∃ v6 : Option V, σ = [some (.str sign), some (.ref a), some (.ref b), some (.ref d1), some (.ref d2), some (.ref l), v6, none] ∧ Same H2 H' ∧ H' p = some (.lst (ns.map V.int)) ∧ ∃ us, H' l = some (.lst us) ∧ us.length ≤ i * 1000 ∧ Its K H' us (takenL sign ps qs (ns.take i)))
        ⟨none, rfl, s26, g6, [], gl6, Nat.zero_le _, .nil⟩ (fun i σ H' _ ⟨_, _, _, gp, _⟩ => SqL.of gp) ?_ ?_⟩
      · rintro i x σ H7 hx ⟨v6, rfl, s7, gp7, us, gl7, lus, ius⟩
        rw [List.getElem?_map] at hx
        cases er : ns[i]? with
        | none =>
          rw [er] at hx
          cases hx
        | some r =>
          rw [er] at hx
          cases hx
          have hi : i < ns.length := (List.getElem?_eq_some_iff.mp er).1
          have G1' := (G1.same s2).same s7
          have G2' := G2.same s7
          refine ⟨_, rfl, .inl ⟨rfl, _, SqL.of gl7⟩, _, rfl, _, rfl, d1, rfl, .inl ⟨kvs1, .inl G1'.at_⟩, _, rfl, sz1000 (by show 0 ≤ 1000; decide), fun e1 H8 f8 m8 s8 g8 => ⟨_, DGet.k (k := Sum.inl r) (s8 _ _ G1'.at_), ?_⟩⟩
          obtain ⟨l1, x1, gx1⟩ := (G1'.same s8).get r g8
          rw [x1]
          refine ⟨_, rfl, d2, rfl, .inl ⟨kvs2, .inl (s8 _ _ G2'.at_)⟩, _, rfl, sz1000 (by show 0 ≤ 1000; decide), fun e2 H9 f9 m9 s9 g9 => ⟨_, DGet.k (k := Sum.inl r) ((s8.trans s9) _ _ G2'.at_), ?_⟩⟩
          obtain ⟨l2, x2, gx2⟩ := (G2'.same (s8.trans s9)).get r g9
          rw [x2]
          have b1 := blk_len r ys ps
          have b2 := blk_len r zs qs
          refine ⟨sign, l1, l2, _, _, rfl, s9 _ _ gx1, gx2, by omega, by omega, fun lr H10 s10 g10 => ?_⟩
          have s710 := s8.trans (s9.trans s10)
          have lo := ofRank_len sign (blk ys ps r) (blk zs qs r)
          refine ⟨l, lr, us, _, rfl, rfl, s710 _ _ gl7, g10, Nat.le_trans (show us.length + (ofRank sign (blk ys ps r) (blk zs qs r)).length ≤ 100000 by omega) (by decide), ?_⟩
          have hln : H2 l = none := f3
          refine ⟨_, rfl, same_upd (s7.trans s710) hln, by rw [upd_ne hpl]; exact s710 _ _ gp7, _, upd_same, ?_, ?_⟩
          · rw [List.length_append]
            omega
          · have tk : ns.take (i + 1) = ns.take i ++ [r] := by rw [List.take_add_one, er]; rfl
            rw [tk, takenL_snoc]
            have i10 : Its K H10 (us ++ ofRank sign (blk ys ps r) (blk zs qs r)) (takenL sign ps qs (ns.take i) ++ ofRank sign (at_ r ps) (at_ r qs)) :=
              paired_app (paired_ofRank sign (its_blk r ((ia.same s02).same (s7.trans s710))) (its_blk r ((ib.same s02).same (s7.trans s710)))) (ius.same s710)
            exact its_upd (s710 _ _ gl7) i10
      · rintro σ H7 ⟨v6, rfl, s7, gp7, us, gl7, lus, ius⟩
        rw [List.take_of_length_le (by rw [List.length_map]; exact Nat.le_refl _)] at ius
        exact ⟨_, rfl, k l H7 us ns (s02.trans s7) hl0 gl7 R ius⟩
end
end K09
namespace K09
open PySem PySem.Spec PyProof.Rows L2 He Tw
/-! ### the mathematics of takenL -/
theorem sum_ind (x : Int) : ∀ {ns : List Int}, ns.Nodup → (ns.map fun r => if x = r then 1 else 0).sum ≤ 1
  | [], _ => by simp
  | r :: ns, nd => by
    obtain ⟨n1, n2⟩ := List.nodup_cons.mp nd
    have ih := sum_ind x n2
    rw [List.map_cons, List.sum_cons]
    by_cases e : x = r
    · rw [if_pos e]
      have z : (ns.map fun r => if x = r then 1 else 0).sum = 0 := by
        have : ∀ {ms : List Int}, r ∉ ms → (ms.map fun r => if x = r then 1 else 0).sum = 0 := by
          intro ms
          induction ms with
          | nil => intro _; rfl
          | cons m ms ih2 =>
            intro h
            rw [List.mem_cons, not_or] at h
            rw [List.map_cons, List.sum_cons, if_neg (fun y => h.1 (by rw [← e, y])), ih2 h.2]
        exact this n1
      omega
    · rw [if_neg e]
      omega
theorem sum_add (f g : Int → Nat) : ∀ ns : List Int, (ns.map fun r => f r + g r).sum = (ns.map f).sum + (ns.map g).sum
  | [] => rfl
  | r :: ns => by
    have ih := sum_add f g ns
    simp only [List.map_cons, List.sum_cons] at ih ⊢
    omega
theorem sum_at {ns : List Int} (nd : ns.Nodup) : ∀ ps : List (Int × Str), (ns.map fun r => (at_ r ps).length).sum ≤ ps.length
  | [] => by
    have : ∀ ms : List Int, (ms.map fun r => (at_ r ([] : List (Int × Str))).length).sum = 0 := by
      intro ms
      induction ms with
      | nil => rfl
      | cons m ms ih => rw [List.map_cons, List.sum_cons, ih]; rfl
    rw [this]
    exact Nat.zero_le _
  | p :: ps => by
    have ih := sum_at nd ps
    have h1 := sum_ind p.1 nd
    have e : ∀ r, (at_ r (p :: ps)).length = (if p.1 = r then 1 else 0) + (at_ r ps).length := fun r => by
      unfold at_
      by_cases e : p.1 = r
      · rw [if_pos e, List.filter_cons_of_pos (p := fun q : Int × Str => decide (q.1 = r)) (decide_eq_true e), List.length_cons]
        omega
      · rw [if_neg e, List.filter_cons_of_neg (p := fun q : Int × Str => decide (q.1 = r)) (fun z => e (of_decide_eq_true z))]
        omega
    have e2 : (ns.map fun r => (at_ r (p :: ps)).length) = ns.map fun r => (if p.1 = r then 1 else 0) + (at_ r ps).length := List.map_congr_left fun r _ => e r
    rw [e2, sum_add, List.length_cons]
    omega
theorem asc_nodup {ns : List Int} (h : ns.Pairwise (· < ·)) : ns.Nodup := h.imp fun h => Int.ne_of_lt h
theorem takenL_len {sign : Str} {ps qs : List (Int × Str)} {ns : List Int} (R : Rks ps qs ns) : (takenL sign ps qs ns).length ≤ ps.length + qs.length := by
  have h1 := sum_at (asc_nodup R.asc) ps
  have h2 := sum_at (asc_nodup R.asc) qs
  have : ∀ ms : List Int, (takenL sign ps qs ms).length ≤ (ms.map fun r => (at_ r ps).length).sum + (ms.map fun r => (at_ r qs).length).sum := by
    intro ms
    induction ms with
    | nil => exact Nat.zero_le _
    | cons m ms ih =>
      have e : takenL sign ps qs (m :: ms) = ofRank sign (at_ m ps) (at_ m qs) ++ takenL sign ps qs ms := rfl
      have := ofRank_len sign (at_ m ps) (at_ m qs)
      rw [e, List.length_append, List.map_cons, List.map_cons, List.sum_cons, List.sum_cons]
      omega
  have := this ns
  omega
theorem ofRank_mem {α : Type} {sign : Str} {xs ys : List α} {x : α} (h : x ∈ ofRank sign xs ys) : x ∈ xs ∨ x ∈ ys := by
  unfold ofRank at h
  split at h
  · exact List.mem_append.mp h
  · split at h
    · exact (List.mem_append.mp h).imp_right List.mem_of_mem_drop
    · split at h
      · exact .inl (List.mem_of_mem_take h)
      · split at h
        · exact .inl (List.mem_of_mem_drop h)
        · exact (List.mem_append.mp h).imp List.mem_of_mem_drop List.mem_of_mem_drop
theorem ofRank_at {sign : Str} {ps qs : List (Int × Str)} {r : Int} {q : Int × Str} (h : q ∈ ofRank sign (at_ r ps) (at_ r qs)) : q.1 = r ∧ (q ∈ ps ∨ q ∈ qs) := by
  rcases ofRank_mem h with h | h
  · obtain ⟨h1, h2⟩ := List.mem_filter.mp h
    exact ⟨of_decide_eq_true h2, .inl h1⟩
  · obtain ⟨h1, h2⟩ := List.mem_filter.mp h
    exact ⟨of_decide_eq_true h2, .inr h1⟩
abbrev Asc (ps : List (Int × Str)) : Prop := ps.Pairwise fun a b => a.1 ≤ b.1
theorem takenL_asc {sign : Str} {ps qs : List (Int × Str)} {ns : List Int} (R : ns.Pairwise (· < ·)) : Asc (takenL sign ps qs ns) := by
  unfold takenL Asc
  refine List.pairwise_flatten.mpr ⟨fun l hl => ?_, ?_⟩
  · obtain ⟨r, _, rfl⟩ := List.mem_map.mp hl
    exact List.Pairwise.imp_of_mem (R := fun _ _ => True) (fun ha hb _ => by rw [(ofRank_at ha).1, (ofRank_at hb).1]; exact Int.le_refl _) (List.pairwise_of_forall (fun _ _ => trivial))
  · refine List.pairwise_map.mpr (R.imp fun h x hx y hy => ?_)
    rw [(ofRank_at hx).1, (ofRank_at hy).1]
    omega
theorem asc_up {ps : List (Int × Str)} (h : Asc ps) : Up ps ps.length := fun m a b hm ha hb => by
  obtain ⟨h1, e1⟩ := List.getElem?_eq_some_iff.mp ha
  obtain ⟨h2, e2⟩ := List.getElem?_eq_some_iff.mp hb
  rw [← e1, ← e2]
  exact List.pairwise_iff_getElem.mp h m (m + 1) h1 h2 (by omega)
theorem takenL_mem {sign : Str} {ps qs : List (Int × Str)} {ns : List Int} {q : Int × Str} (h : q ∈ takenL sign ps qs ns) : q ∈ ps ∨ q ∈ qs := by
  obtain ⟨l, hl, hq⟩ := List.mem_flatten.mp h
  obtain ⟨r, _, rfl⟩ := List.mem_map.mp hl
  exact (ofRank_at hq).2
/-- a row made of these, or too long -/
theorem row_or {K : Fg} {H : Hp} {q x dx : Addr} {xs : List V} {ps : List (Int × Str)} {R : VK} {E : XK} (hx : H x = none) (hd : H dx = none) (hne : dx ≠ x) (S : Src K H q xs (ps.map some)) (up : Up ps ps.length)
    (k : ps.length ≤ 200 → ∀ (H' : Hp) (ys : List V), Same H H' → RowAt K H' x ys → Its K H' ys ps → R .non H')
    (kb : 200 < ps.length → ∀ (d : Addr) (H' : Hp), Same H H' → H' d = some (.xd [("most", .int 200)]) → E (.ref (ga K "TooMany")) (some d) H') : spRow K [.ref x, .ref q] (upd (upd H dx (.own x)) x (.ins (ga K "Row") dx [])) R E := by
  have sm := same_made (o := .own x) (u := .ins (ga K "Row") dx []) hd hx hne
  refine ⟨x, q, dx, xs, ps.map some, rfl, upd_same, S.same sm, fun ps' e up' few' H' ys b r i => ?_, fun n f v bad d H' s g => ?_⟩
  · have ep := some_inj e
    subst ep
    exact k few' H' ys (same_but sm b hx) r i
  · cases bad with
    | @item n ps' h1 h2 h3 =>
      rw [List.getElem?_map] at h3
      cases e : ps[n]? with
      | none =>
        rw [e] at h3
        cases h3
      | some p =>
        rw [e] at h3
        cases h3
    | @order m ps' a b h0 h1 h2 h3 h4 =>
      have ep := some_inj h0
      subst ep
      have := up m a b (List.getElem?_eq_some_iff.mp h1).1 h1 h2
      omega
    | @many ps' h0 h1 h2 =>
      have ep := some_inj h0
      subst ep
      exact kb (by omega) d H' (sm.trans s) g
end K09
namespace K09
open PySem PySem.Spec PyProof.Rows L2 He Tw
/-- the row of what two operands give by a sign -/
def spJoined (K : Fg) : Sp := fun vs H Q E => ∃ (sign : Str) (x y : Addr) (xs ys : List V) (os1 os2 : List (Option (Int × Str))), vs = [.str sign, .ref x, .ref y] ∧ Src K H x xs os1 ∧ Src K H y ys os2 ∧
  (∀ (ps qs : List (Int × Str)), os1 = ps.map some → Up ps ps.length → ps.length ≤ 200 → os2 = qs.map some → Up qs qs.length → qs.length ≤ 200 → Few ps qs ∧ ∀ ns, Rks ps qs ns →
    ((takenL sign ps qs ns).length ≤ 200 → ∀ (a : Addr) (H' : Hp) (us : List V), H a = none → Same H H' → RowAt K H' a us → Its K H' us (takenL sign ps qs ns) → Q (.ref a) H') ∧
    (200 < (takenL sign ps qs ns).length → ∀ (d : Addr) (H' : Hp), Same H H' → H' d = some (.xd [("most", .int 200)]) → E (.ref (ga K "TooMany")) (some d) H')) ∧
  (∀ (z f : Str) (v : Int), Bad os1 z f v → ∀ (d : Addr) (H' : Hp), Same H H' → H' d = some (.xd [(f, .int v)]) → E (.ref (ga K z)) (some d) H') ∧
  (∀ (z f : Str) (v : Int), Bad os2 z f v → ∀ (d : Addr) (H' : Hp), Same H H' → H' d = some (.xd [(f, .int v)]) → E (.ref (ga K z)) (some d) H')
abbrev s_joined : Stmt := topS 28
abbrev N_joined : List Str := ["sign", "left", "right"]
theorem sc_joined : FnScope N_joined ["sign", "left", "right"] (defScope s_joined) := ⟨rfl, rfl, rfl, by decide +kernel, rfl, by decide +kernel, by decide +kernel⟩
theorem sub_made {H H' : Hp} {x dx : Addr} {o u : HO} (hx : H x = none) (hd : H dx = none) (hne : dx ≠ x) (b : But x (upd (upd H dx o) x u) H') : Same H H' := same_but (same_made (o := o) (u := u) hd hx hne) b hx
section
variable {P : Program} {w : World} {K : Fg} {mg : Str → Option Value} {base : Heap} {fd : Nat → FuncData}
theorem G_taken (D : DefsK K fd) (T : Txt K mg) : FnOk P w K mg base CX0 2 (ga K "taken") (fd 20) ["sign", "left", "right"] (spTaken K) :=
  ok_taken (D 20 _ rfl) (D 19 _ rfl) (T.fn (x := "by_rank") (by decide +kernel)) (D 21 _ rfl) (T.fn (x := "taken_of_rank") (by decide +kernel)) T
theorem ok_joined (D : DefsK K fd) (T : Txt K mg) : FnOk P w K mg base (L2.CX P w) 8 (ga K "joined") (fd 22) ["sign", "left", "right"] (spJoined K) := by
  have gR : mg "Row" = some (.ref (ga K "Row")) := T.cl (by decide +kernel)
  have gT := T.fn (x := "taken") (by decide +kernel)
  have GR : FnOk P w K mg base (L2.CX P w) 6 (ma K (ga K "Row") "__init__") (fd 6) ["self", "items"] (spRow K) := G_row D T
  have GT : FnOk P w K mg base CX0 2 (ga K "taken") (fd 20) ["sign", "left", "right"] (spTaken K) := G_taken D T
  have FT : FnP K "taken" "taken" s_taken (ga K "taken") (fd 20) := D 20 _ rfl
  have bT : Binds K (fd 20) ["sign", "left", "right"] [] := FT.bindsN fun _ _ _ _ _ _ us hl => match us, hl with | [_, _, _], _ => rfl
  have F : FnP K "joined" "joined" s_joined (ga K "joined") (fd 22) := D 22 _ rfl
  refine F.ok sc_joined (fun vs H Q E h => ?_) (fun cdv A outer s H vs Q E hr h => ?_)
  · obtain ⟨sign, x, y, xs, ys, os1, os2, rfl, _⟩ := h
    rfl
  · obtain ⟨sign, x, y, xs, ys, os1, os2, rfl, S1, S2, kg, kb1, kb2⟩ := h
    refine ⟨_, pss_one (ps_ret (pe_make (E := E) T.mkR GR (hr.mono (by decide)) rfl gR (bRow D) .nil (passes_call (takes_of rfl rfl rfl rfl) (fun _ _ _ _ h => h)) (pa_cons (pe_call GT (hr.mono (by decide)) rfl gT FT.kp bT .nil pass0 (pa_cons (pv 0)
      (pa_cons (pe_fld (pe_make (E := E) T.mkR GR (hr.mono (by decide)) rfl gR (bRow D) .nil (passes_call (takes_of rfl rfl rfl rfl) (fun _ _ _ _ h => h)) (pa_cons (pv 1) pa_nil)) rfl)
      (pa_cons (pe_fld (pe_make (E := E) T.mkR GR (hr.mono (by decide)) rfl gR (bRow D) .nil (passes_call (takes_of rfl rfl rfl rfl) (fun _ _ _ _ h => h)) (pa_cons (pv 2) pa_nil)) rfl) pa_nil)))) pa_nil))), ?_⟩
    refine ⟨_, rfl, _, rfl, fun x1 dx1 hx1 hd1 hne1 => ?_⟩
    refine ⟨x1, x, dx1, xs, os1, rfl, upd_same, S1.same (same_made hd1 hx1 hne1), fun ps e1 up1 few1 H1 us1 b1 r1 i1 => ?_, fun z f v bad d H' s' g' => kb1 z f v bad d H' ((same_made hd1 hx1 hne1).trans s') g'⟩
    have s1 := sub_made hx1 hd1 hne1 b1
    obtain ⟨dr1, t1, hr1, ht1⟩ := id r1
    refine ⟨rfl, x1, _, dr1, _, _, rfl, hr1, T.clsR, T.naR, rfl, ?_⟩
    refine ⟨_, rfl, fun x2 dx2 hx2 hd2 hne2 => ?_⟩
    refine ⟨x2, y, dx2, ys, os2, rfl, upd_same, S2.same (s1.trans (same_made hd2 hx2 hne2)), fun qs e2 up2 few2 H2 us2 b2 r2 i2 => ?_, fun z f v bad d H' s' g' => kb2 z f v bad d H' (s1.trans ((same_made hd2 hx2 hne2).trans s')) g'⟩
    have s2 := sub_made hx2 hd2 hne2 b2
    obtain ⟨dr2, t2, hr2, ht2⟩ := id r2
    obtain ⟨few, kk⟩ := kg ps qs e1 up1 few1 e2 up2 few2
    refine ⟨rfl, x2, _, dr2, _, _, rfl, hr2, T.clsR, T.naR, rfl, ?_⟩
    refine ⟨sign, t1, t2, us1, us2, ps, qs, rfl, SqT.of (s2 _ _ ht1), i1.same s2, by omega, SqT.of ht2, i2, by omega, few, fun l H3 us ns s3 f3 g3 R i3 => ?_⟩
    obtain ⟨kA, kB⟩ := kk ns R
    have s03 := s1.trans (s2.trans s3)
    have ln := takenL_len (sign := sign) R
    refine fun x3 dx3 hx3 hd3 hne3 => row_or hx3 hd3 hne3 (its_src (.inl (SqL.of g3)) i3 (by omega)) (asc_up (takenL_asc R.asc)) (fun few3 H4 zs s4 r4 i4 => ⟨rfl, ?_⟩) (fun big d H4 s4 g4 => kB big d H4 (s03.trans s4) g4)
    refine kA few3 x3 H4 zs ?_ (s03.trans s4) r4 i4
    cases q : H x3 with
    | none => rfl
    | some o =>
      rw [s03 _ _ q] at hx3
      cases hx3
end
end K09
namespace K09
open PySem PySem.Spec PyProof.Rows L2 He Tw
theorem pe_no {X : Cx} {e : Expr} : PE X e (fun _ _ _ => False) := ⟨fun _ _ _ _ _ _ h => h.elim⟩
/-- a value that the operators take -/
inductive Opd (K : Fg) (H : Hp) (y : Addr) : Value → Prop where
  | row {dx : Addr} {fs : List (Str × V)} (h : H y = some (.ins (ga K "Row") dx fs)) : Opd K H y (.ref (ga K "Row"))
  | lst {xs : List V} (h : H y = some (.lst xs)) : Opd K H y (.type "list")
  | tup {xs : List V} (h : H y = some (.tup xs)) : Opd K H y (.type "tuple")
section
variable {K : Fg} {mg : Str → Option Value}
theorem Opd.same {H H' : Hp} {y : Addr} {t : Value} (e : Same H H') : Opd K H y t → Opd K H' y t
  | .row h => .row (e _ _ h)
  | .lst h => .lst (e _ _ h)
  | .tup h => .tup (e _ _ h)
theorem Opd.ty (T : Txt K mg) {H : Hp} {y : Addr} {t : Value} (h : Opd K H y t) : TyX K H (.ref y) t := by
  cases h with
  | row h => exact .base (.ins h T.clsR (T.ob (by decide +kernel)).2 T.xo.hn T.xo.ht (T.ob (by decide +kernel)).1)
  | lst h => exact .base (.lst h)
  | tup h => exact .base (.tup h)
theorem Opd.kit (T : Txt K mg) {H : Hp} {y : Addr} {t : Value} (h : Opd K H y t) : PySem.W.kitAny K t [.ref (ga K "Row"), .type "list", .type "tuple"] = some true := by
  have z : PySem.W.kitOne K (.type "tuple") (.type "list") = some false := rfl
  have z1 : PySem.W.kitOne K (.type "list") (.type "list") = some true := rfl
  have z2 : PySem.W.kitOne K (.type "tuple") (.type "tuple") = some true := rfl
  have z3 := T.kitR (t := "list") (by decide +kernel)
  have z4 := T.kitR (t := "tuple") (by decide +kernel)
  have z5 := T.kitRR
  cases h with
  | row h => simp only [PySem.W.kitAny, z5]
  | lst h => simp only [PySem.W.kitAny, z3, z1]
  | tup h => simp only [PySem.W.kitAny, z4, z, z2]
end
/-- row op= y -/
def spIn (K : Fg) (sign : Str) : Sp := fun vs H Q E => ∃ (a y : Addr) (us0 xs : List V) (ps : List (Int × Str)) (os : List (Option (Int × Str))) (t : Value), vs = [.ref a, .ref y] ∧ RowAt K H a us0 ∧ Its K H us0 ps ∧ Up ps ps.length ∧ ps.length ≤ 200 ∧ Opd K H y t ∧ Src K H y xs os ∧
  (∀ qs, os = qs.map some → Up qs qs.length → qs.length ≤ 200 → Few ps qs ∧ ∀ ns, Rks ps qs ns →
    ((takenL sign ps qs ns).length ≤ 200 → ∀ (H' : Hp) (us : List V), But a H H' → RowAt K H' a us → Its K H' us (takenL sign ps qs ns) → Q (.ref a) H') ∧
    (200 < (takenL sign ps qs ns).length → ∀ (d : Addr) (H' : Hp), Same H H' → H' d = some (.xd [("most", .int 200)]) → E (.ref (ga K "TooMany")) (some d) H')) ∧
  (∀ (z f : Str) (v : Int), Bad os z f v → ∀ (d : Addr) (H' : Hp), Same H H' → H' d = some (.xd [(f, .int v)]) → E (.ref (ga K z)) (some d) H')
theorem row_seq {K : Fg} {H : Hp} {a : Addr} {us : List V} (h : RowAt K H a us) : Seq K H a us := .inr (.inr h)
theorem bad_up {ps : List (Int × Str)} (up : Up ps ps.length) (few : ps.length ≤ 200) {z f : Str} {v : Int} (bad : Bad (ps.map some) z f v) : False := by
  cases bad with
  | @item n ps' h1 h2 h3 =>
    rw [List.getElem?_map] at h3
    cases e : ps[n]? with
    | none =>
      rw [e] at h3
      cases h3
    | some p =>
      rw [e] at h3
      cases h3
  | @order m ps' a b h0 h1 h2 h3 h4 =>
    have ep := some_inj h0
    subst ep
    have := up m a b (List.getElem?_eq_some_iff.mp h1).1 h1 h2
    omega
  | @many ps' h0 h1 h2 =>
    have ep := some_inj h0
    subst ep
    omega
theorem its_put1 {K : Fg} {H : Hp} {a dx t : Addr} {fs : List (Str × V)} {o : HO} (g : H a = some (.ins (ga K "Row") dx [("state", .ref t)])) {ys : List V} {ps : List (Int × Str)} (h : Its K H ys ps) : Its K (upd H a o) ys ps :=
  its_put (fun dx i z e => by
    rw [g] at e
    exact nomatch (HO.ins.inj (Option.some.inj e)).2.2) h
abbrev N_in : List Str := ["self", "other"]
section
variable {P : Program} {w : World} {K : Fg} {mg : Str → Option Value} {base : Heap} {fd : Nat → FuncData}
abbrev s_iadd : Stmt := inClass (topS 27) 17
theorem sc_iadd : FnScope N_in ["self", "other"] (defScope s_iadd) := ⟨rfl, rfl, rfl, by decide +kernel, rfl, by decide +kernel, by decide +kernel⟩
theorem ok_iadd (D : DefsK K fd) (T : Txt K mg) : FnOk P w K mg base (L2.CX P w) 9 (ma K (ga K "Row") "__iadd__") (fd 9) ["self", "other"] (spIn K "+") := by
  have zisi : mg "isinstance" = none := T.bl (by decide +kernel)
  have zlist : mg "list" = none := T.bl (by decide +kernel)
  have ztup : mg "tuple" = none := T.bl (by decide +kernel)
  have gR : mg "Row" = some (.ref (ga K "Row")) := T.cl (by decide +kernel)
  have gJ := T.fn (x := "joined") (by decide +kernel)
  have FJ : FnP K "joined" "joined" s_joined (ga K "joined") (fd 22) := D 22 _ rfl
  have GJ : FnOk P w K mg base (L2.CX P w) 8 (ga K "joined") (fd 22) ["sign", "left", "right"] (spJoined K) := ok_joined D T
  have bJ : Binds K (fd 22) ["sign", "left", "right"] [] := FJ.bindsN fun _ _ _ _ _ _ us hl => match us, hl with | [_, _, _], _ => rfl
  have F : FnP K "__iadd__" "Row.__iadd__" s_iadd (ma K (ga K "Row") "__iadd__") (fd 9) := D 9 _ rfl
  refine F.ok sc_iadd (fun vs H Q E h => ?_) (fun cdv A outer s H vs Q E hr h => ?_)
  · obtain ⟨a, y, us0, xs, ps, os, t, rfl, _⟩ := h
    rfl
  · obtain ⟨a, y, us0, xs, ps, os, t, rfl, ra, ia, up, few, op, S, kg, kb⟩ := h
    refine ⟨_, (pss_cons (ps_if (pt_not (pt_val (pe_callB call_isAT (by rfl) zisi (by decide +kernel) (pa_cons (pv 1) (pa_cons (pe_tupN (pa_cons (pe_glob (v := .ref (ga K "Row")) rfl gR rfl) (pa_cons (pe_bltn (v := .ty "list") (by rfl) zlist (by decide +kernel) rfl) (pa_cons (pe_bltn (v := .ty "tuple") (by rfl) ztup (by decide +kernel) rfl) pa_nil)))) pa_nil))))) (pss_one (ps_ret pe_no)) pss_nil)
    (pss_cons (ps_fld (pv 0) (pe_fld (pe_call (E := E) GJ (hr.mono (by decide)) rfl gJ FJ.kp bJ .nil (passes_call (takes_of rfl rfl rfl rfl) (fun _ _ _ _ h => h)) (pa_cons pe_str (pa_cons (pv 0) (pa_cons (pv 1) pa_nil)))) rfl) rfl)
    (pss_one (ps_ret (pv 0))))), ?_⟩
    obtain ⟨dx, ta, ha, hta⟩ := id ra
    refine ⟨_, rfl, sz1000 (by show 3 ≤ 1000; decide), fun tp H1 f1 s1 g1 => ?_⟩
    refine ⟨.ref y, tp, _, t, [.ref (ga K "Row"), .type "list", .type "tuple"], true, rfl, g1, .cons (.own _) (.cons (.ty _) (.cons (.ty _) .nil)), .inl ((op.same s1).ty T), op.kit T, _, rfl, ?_⟩
    refine iteF ?_
    have la := its_len ia
    refine ⟨_, rfl, _, rfl, "+", a, y, us0, xs, ps.map some, os, rfl, (its_src (row_seq ra) ia (by omega)).same s1, S.same s1, fun ps' qs e1 up1 few1 e2 up2 few2 => ?_, fun z f v bad => (bad_up up few bad).elim, fun z f v bad d H' s' g' => kb z f v bad d H' (s1.trans s') g'⟩
    have ep := some_inj e1
    subst ep
    obtain ⟨k1, k2⟩ := kg qs e2 up2 few2
    refine ⟨k1, fun ns R => ⟨fun few3 x H2 us n2 s2 r2 i2 => ?_, fun big d H2 s2 g2 => (k2 ns R).2 big d H2 (s1.trans s2) g2⟩⟩
    obtain ⟨dr, tr, hr2, htr⟩ := r2
    have s12 := s1.trans s2
    have ha2 := s12 _ _ ha
    refine ⟨x, _, dr, _, _, rfl, hr2, T.clsR, T.naR, rfl, ?_⟩
    refine ⟨_, rfl, a, _, dx, _, rfl, ha2, T.clsR, T.naR, (by show 1 < 1000; decide), ?_⟩
    have nt : tr ≠ a := fun z => by
      rw [z, ha2] at htr
      cases htr
    refine ⟨_, rfl, (k2 ns R).1 few3 _ us ((But.of s12).trans But.upd) ⟨dx, tr, upd_same, by rw [upd_ne nt]; exact htr⟩ (its_put1 (fs := []) ha2 i2)⟩
abbrev s_ior : Stmt := inClass (topS 27) 20
theorem sc_ior : FnScope N_in ["self", "other"] (defScope s_ior) := ⟨rfl, rfl, rfl, by decide +kernel, rfl, by decide +kernel, by decide +kernel⟩
theorem ok_ior (D : DefsK K fd) (T : Txt K mg) : FnOk P w K mg base (L2.CX P w) 9 (ma K (ga K "Row") "__ior__") (fd 10) ["self", "other"] (spIn K "|") := by
  have zisi : mg "isinstance" = none := T.bl (by decide +kernel)
  have zlist : mg "list" = none := T.bl (by decide +kernel)
  have ztup : mg "tuple" = none := T.bl (by decide +kernel)
  have gR : mg "Row" = some (.ref (ga K "Row")) := T.cl (by decide +kernel)
  have gJ := T.fn (x := "joined") (by decide +kernel)
  have FJ : FnP K "joined" "joined" s_joined (ga K "joined") (fd 22) := D 22 _ rfl
  have GJ : FnOk P w K mg base (L2.CX P w) 8 (ga K "joined") (fd 22) ["sign", "left", "right"] (spJoined K) := ok_joined D T
  have bJ : Binds K (fd 22) ["sign", "left", "right"] [] := FJ.bindsN fun _ _ _ _ _ _ us hl => match us, hl with | [_, _, _], _ => rfl
  have F : FnP K "__ior__" "Row.__ior__" s_ior (ma K (ga K "Row") "__ior__") (fd 10) := D 10 _ rfl
  refine F.ok sc_ior (fun vs H Q E h => ?_) (fun cdv A outer s H vs Q E hr h => ?_)
  · obtain ⟨a, y, us0, xs, ps, os, t, rfl, _⟩ := h
    rfl
  · obtain ⟨a, y, us0, xs, ps, os, t, rfl, ra, ia, up, few, op, S, kg, kb⟩ := h
    refine ⟨_, (pss_cons (ps_if (pt_not (pt_val (pe_callB call_isAT (by rfl) zisi (by decide +kernel) (pa_cons (pv 1) (pa_cons (pe_tupN (pa_cons (pe_glob (v := .ref (ga K "Row")) rfl gR rfl) (pa_cons (pe_bltn (v := .ty "list") (by rfl) zlist (by decide +kernel) rfl) (pa_cons (pe_bltn (v := .ty "tuple") (by rfl) ztup (by decide +kernel) rfl) pa_nil)))) pa_nil))))) (pss_one (ps_ret pe_no)) pss_nil)
    (pss_cons (ps_fld (pv 0) (pe_fld (pe_call (E := E) GJ (hr.mono (by decide)) rfl gJ FJ.kp bJ .nil (passes_call (takes_of rfl rfl rfl rfl) (fun _ _ _ _ h => h)) (pa_cons pe_str (pa_cons (pv 0) (pa_cons (pv 1) pa_nil)))) rfl) rfl)
    (pss_one (ps_ret (pv 0))))), ?_⟩
    obtain ⟨dx, ta, ha, hta⟩ := id ra
    refine ⟨_, rfl, sz1000 (by show 3 ≤ 1000; decide), fun tp H1 f1 s1 g1 => ?_⟩
    refine ⟨.ref y, tp, _, t, [.ref (ga K "Row"), .type "list", .type "tuple"], true, rfl, g1, .cons (.own _) (.cons (.ty _) (.cons (.ty _) .nil)), .inl ((op.same s1).ty T), op.kit T, _, rfl, ?_⟩
    refine iteF ?_
    have la := its_len ia
    refine ⟨_, rfl, _, rfl, "|", a, y, us0, xs, ps.map some, os, rfl, (its_src (row_seq ra) ia (by omega)).same s1, S.same s1, fun ps' qs e1 up1 few1 e2 up2 few2 => ?_, fun z f v bad => (bad_up up few bad).elim, fun z f v bad d H' s' g' => kb z f v bad d H' (s1.trans s') g'⟩
    have ep := some_inj e1
    subst ep
    obtain ⟨k1, k2⟩ := kg qs e2 up2 few2
    refine ⟨k1, fun ns R => ⟨fun few3 x H2 us n2 s2 r2 i2 => ?_, fun big d H2 s2 g2 => (k2 ns R).2 big d H2 (s1.trans s2) g2⟩⟩
    obtain ⟨dr, tr, hr2, htr⟩ := r2
    have s12 := s1.trans s2
    have ha2 := s12 _ _ ha
    refine ⟨x, _, dr, _, _, rfl, hr2, T.clsR, T.naR, rfl, ?_⟩
    refine ⟨_, rfl, a, _, dx, _, rfl, ha2, T.clsR, T.naR, (by show 1 < 1000; decide), ?_⟩
    have nt : tr ≠ a := fun z => by
      rw [z, ha2] at htr
      cases htr
    refine ⟨_, rfl, (k2 ns R).1 few3 _ us ((But.of s12).trans But.upd) ⟨dx, tr, upd_same, by rw [upd_ne nt]; exact htr⟩ (its_put1 (fs := []) ha2 i2)⟩
abbrev s_iand : Stmt := inClass (topS 27) 23
theorem sc_iand : FnScope N_in ["self", "other"] (defScope s_iand) := ⟨rfl, rfl, rfl, by decide +kernel, rfl, by decide +kernel, by decide +kernel⟩
theorem ok_iand (D : DefsK K fd) (T : Txt K mg) : FnOk P w K mg base (L2.CX P w) 9 (ma K (ga K "Row") "__iand__") (fd 11) ["self", "other"] (spIn K "&") := by
  have zisi : mg "isinstance" = none := T.bl (by decide +kernel)
  have zlist : mg "list" = none := T.bl (by decide +kernel)
  have ztup : mg "tuple" = none := T.bl (by decide +kernel)
  have gR : mg "Row" = some (.ref (ga K "Row")) := T.cl (by decide +kernel)
  have gJ := T.fn (x := "joined") (by decide +kernel)
  have FJ : FnP K "joined" "joined" s_joined (ga K "joined") (fd 22) := D 22 _ rfl
  have GJ : FnOk P w K mg base (L2.CX P w) 8 (ga K "joined") (fd 22) ["sign", "left", "right"] (spJoined K) := ok_joined D T
  have bJ : Binds K (fd 22) ["sign", "left", "right"] [] := FJ.bindsN fun _ _ _ _ _ _ us hl => match us, hl with | [_, _, _], _ => rfl
  have F : FnP K "__iand__" "Row.__iand__" s_iand (ma K (ga K "Row") "__iand__") (fd 11) := D 11 _ rfl
  refine F.ok sc_iand (fun vs H Q E h => ?_) (fun cdv A outer s H vs Q E hr h => ?_)
  · obtain ⟨a, y, us0, xs, ps, os, t, rfl, _⟩ := h
    rfl
  · obtain ⟨a, y, us0, xs, ps, os, t, rfl, ra, ia, up, few, op, S, kg, kb⟩ := h
    refine ⟨_, (pss_cons (ps_if (pt_not (pt_val (pe_callB call_isAT (by rfl) zisi (by decide +kernel) (pa_cons (pv 1) (pa_cons (pe_tupN (pa_cons (pe_glob (v := .ref (ga K "Row")) rfl gR rfl) (pa_cons (pe_bltn (v := .ty "list") (by rfl) zlist (by decide +kernel) rfl) (pa_cons (pe_bltn (v := .ty "tuple") (by rfl) ztup (by decide +kernel) rfl) pa_nil)))) pa_nil))))) (pss_one (ps_ret pe_no)) pss_nil)
    (pss_cons (ps_fld (pv 0) (pe_fld (pe_call (E := E) GJ (hr.mono (by decide)) rfl gJ FJ.kp bJ .nil (passes_call (takes_of rfl rfl rfl rfl) (fun _ _ _ _ h => h)) (pa_cons pe_str (pa_cons (pv 0) (pa_cons (pv 1) pa_nil)))) rfl) rfl)
    (pss_one (ps_ret (pv 0))))), ?_⟩
    obtain ⟨dx, ta, ha, hta⟩ := id ra
    refine ⟨_, rfl, sz1000 (by show 3 ≤ 1000; decide), fun tp H1 f1 s1 g1 => ?_⟩
    refine ⟨.ref y, tp, _, t, [.ref (ga K "Row"), .type "list", .type "tuple"], true, rfl, g1, .cons (.own _) (.cons (.ty _) (.cons (.ty _) .nil)), .inl ((op.same s1).ty T), op.kit T, _, rfl, ?_⟩
    refine iteF ?_
    have la := its_len ia
    refine ⟨_, rfl, _, rfl, "&", a, y, us0, xs, ps.map some, os, rfl, (its_src (row_seq ra) ia (by omega)).same s1, S.same s1, fun ps' qs e1 up1 few1 e2 up2 few2 => ?_, fun z f v bad => (bad_up up few bad).elim, fun z f v bad d H' s' g' => kb z f v bad d H' (s1.trans s') g'⟩
    have ep := some_inj e1
    subst ep
    obtain ⟨k1, k2⟩ := kg qs e2 up2 few2
    refine ⟨k1, fun ns R => ⟨fun few3 x H2 us n2 s2 r2 i2 => ?_, fun big d H2 s2 g2 => (k2 ns R).2 big d H2 (s1.trans s2) g2⟩⟩
    obtain ⟨dr, tr, hr2, htr⟩ := r2
    have s12 := s1.trans s2
    have ha2 := s12 _ _ ha
    refine ⟨x, _, dr, _, _, rfl, hr2, T.clsR, T.naR, rfl, ?_⟩
    refine ⟨_, rfl, a, _, dx, _, rfl, ha2, T.clsR, T.naR, (by show 1 < 1000; decide), ?_⟩
    have nt : tr ≠ a := fun z => by
      rw [z, ha2] at htr
      cases htr
    refine ⟨_, rfl, (k2 ns R).1 few3 _ us ((But.of s12).trans But.upd) ⟨dx, tr, upd_same, by rw [upd_ne nt]; exact htr⟩ (its_put1 (fs := []) ha2 i2)⟩
abbrev s_isub : Stmt := inClass (topS 27) 26
theorem sc_isub : FnScope N_in ["self", "other"] (defScope s_isub) := ⟨rfl, rfl, rfl, by decide +kernel, rfl, by decide +kernel, by decide +kernel⟩
theorem ok_isub (D : DefsK K fd) (T : Txt K mg) : FnOk P w K mg base (L2.CX P w) 9 (ma K (ga K "Row") "__isub__") (fd 12) ["self", "other"] (spIn K "-") := by
  have zisi : mg "isinstance" = none := T.bl (by decide +kernel)
  have zlist : mg "list" = none := T.bl (by decide +kernel)
  have ztup : mg "tuple" = none := T.bl (by decide +kernel)
  have gR : mg "Row" = some (.ref (ga K "Row")) := T.cl (by decide +kernel)
  have gJ := T.fn (x := "joined") (by decide +kernel)
  have FJ : FnP K "joined" "joined" s_joined (ga K "joined") (fd 22) := D 22 _ rfl
  have GJ : FnOk P w K mg base (L2.CX P w) 8 (ga K "joined") (fd 22) ["sign", "left", "right"] (spJoined K) := ok_joined D T
  have bJ : Binds K (fd 22) ["sign", "left", "right"] [] := FJ.bindsN fun _ _ _ _ _ _ us hl => match us, hl with | [_, _, _], _ => rfl
  have F : FnP K "__isub__" "Row.__isub__" s_isub (ma K (ga K "Row") "__isub__") (fd 12) := D 12 _ rfl
  refine F.ok sc_isub (fun vs H Q E h => ?_) (fun cdv A outer s H vs Q E hr h => ?_)
  · obtain ⟨a, y, us0, xs, ps, os, t, rfl, _⟩ := h
    rfl
  · obtain ⟨a, y, us0, xs, ps, os, t, rfl, ra, ia, up, few, op, S, kg, kb⟩ := h
    refine ⟨_, (pss_cons (ps_if (pt_not (pt_val (pe_callB call_isAT (by rfl) zisi (by decide +kernel) (pa_cons (pv 1) (pa_cons (pe_tupN (pa_cons (pe_glob (v := .ref (ga K "Row")) rfl gR rfl) (pa_cons (pe_bltn (v := .ty "list") (by rfl) zlist (by decide +kernel) rfl) (pa_cons (pe_bltn (v := .ty "tuple") (by rfl) ztup (by decide +kernel) rfl) pa_nil)))) pa_nil))))) (pss_one (ps_ret pe_no)) pss_nil)
    (pss_cons (ps_fld (pv 0) (pe_fld (pe_call (E := E) GJ (hr.mono (by decide)) rfl gJ FJ.kp bJ .nil (passes_call (takes_of rfl rfl rfl rfl) (fun _ _ _ _ h => h)) (pa_cons pe_str (pa_cons (pv 0) (pa_cons (pv 1) pa_nil)))) rfl) rfl)
    (pss_one (ps_ret (pv 0))))), ?_⟩
    obtain ⟨dx, ta, ha, hta⟩ := id ra
    refine ⟨_, rfl, sz1000 (by show 3 ≤ 1000; decide), fun tp H1 f1 s1 g1 => ?_⟩
    refine ⟨.ref y, tp, _, t, [.ref (ga K "Row"), .type "list", .type "tuple"], true, rfl, g1, .cons (.own _) (.cons (.ty _) (.cons (.ty _) .nil)), .inl ((op.same s1).ty T), op.kit T, _, rfl, ?_⟩
    refine iteF ?_
    have la := its_len ia
    refine ⟨_, rfl, _, rfl, "-", a, y, us0, xs, ps.map some, os, rfl, (its_src (row_seq ra) ia (by omega)).same s1, S.same s1, fun ps' qs e1 up1 few1 e2 up2 few2 => ?_, fun z f v bad => (bad_up up few bad).elim, fun z f v bad d H' s' g' => kb z f v bad d H' (s1.trans s') g'⟩
    have ep := some_inj e1
    subst ep
    obtain ⟨k1, k2⟩ := kg qs e2 up2 few2
    refine ⟨k1, fun ns R => ⟨fun few3 x H2 us n2 s2 r2 i2 => ?_, fun big d H2 s2 g2 => (k2 ns R).2 big d H2 (s1.trans s2) g2⟩⟩
    obtain ⟨dr, tr, hr2, htr⟩ := r2
    have s12 := s1.trans s2
    have ha2 := s12 _ _ ha
    refine ⟨x, _, dr, _, _, rfl, hr2, T.clsR, T.naR, rfl, ?_⟩
    refine ⟨_, rfl, a, _, dx, _, rfl, ha2, T.clsR, T.naR, (by show 1 < 1000; decide), ?_⟩
    have nt : tr ≠ a := fun z => by
      rw [z, ha2] at htr
      cases htr
    refine ⟨_, rfl, (k2 ns R).1 few3 _ us ((But.of s12).trans But.upd) ⟨dx, tr, upd_same, by rw [upd_ne nt]; exact htr⟩ (its_put1 (fs := []) ha2 i2)⟩
abbrev s_ixor : Stmt := inClass (topS 27) 29
theorem sc_ixor : FnScope N_in ["self", "other"] (defScope s_ixor) := ⟨rfl, rfl, rfl, by decide +kernel, rfl, by decide +kernel, by decide +kernel⟩
theorem ok_ixor (D : DefsK K fd) (T : Txt K mg) : FnOk P w K mg base (L2.CX P w) 9 (ma K (ga K "Row") "__ixor__") (fd 13) ["self", "other"] (spIn K "^") := by
  have zisi : mg "isinstance" = none := T.bl (by decide +kernel)
  have zlist : mg "list" = none := T.bl (by decide +kernel)
  have ztup : mg "tuple" = none := T.bl (by decide +kernel)
  have gR : mg "Row" = some (.ref (ga K "Row")) := T.cl (by decide +kernel)
  have gJ := T.fn (x := "joined") (by decide +kernel)
  have FJ : FnP K "joined" "joined" s_joined (ga K "joined") (fd 22) := D 22 _ rfl
  have GJ : FnOk P w K mg base (L2.CX P w) 8 (ga K "joined") (fd 22) ["sign", "left", "right"] (spJoined K) := ok_joined D T
  have bJ : Binds K (fd 22) ["sign", "left", "right"] [] := FJ.bindsN fun _ _ _ _ _ _ us hl => match us, hl with | [_, _, _], _ => rfl
  have F : FnP K "__ixor__" "Row.__ixor__" s_ixor (ma K (ga K "Row") "__ixor__") (fd 13) := D 13 _ rfl
  refine F.ok sc_ixor (fun vs H Q E h => ?_) (fun cdv A outer s H vs Q E hr h => ?_)
  · obtain ⟨a, y, us0, xs, ps, os, t, rfl, _⟩ := h
    rfl
  · obtain ⟨a, y, us0, xs, ps, os, t, rfl, ra, ia, up, few, op, S, kg, kb⟩ := h
    refine ⟨_, (pss_cons (ps_if (pt_not (pt_val (pe_callB call_isAT (by rfl) zisi (by decide +kernel) (pa_cons (pv 1) (pa_cons (pe_tupN (pa_cons (pe_glob (v := .ref (ga K "Row")) rfl gR rfl) (pa_cons (pe_bltn (v := .ty "list") (by rfl) zlist (by decide +kernel) rfl) (pa_cons (pe_bltn (v := .ty "tuple") (by rfl) ztup (by decide +kernel) rfl) pa_nil)))) pa_nil))))) (pss_one (ps_ret pe_no)) pss_nil)
    (pss_cons (ps_fld (pv 0) (pe_fld (pe_call (E := E) GJ (hr.mono (by decide)) rfl gJ FJ.kp bJ .nil (passes_call (takes_of rfl rfl rfl rfl) (fun _ _ _ _ h => h)) (pa_cons pe_str (pa_cons (pv 0) (pa_cons (pv 1) pa_nil)))) rfl) rfl)
    (pss_one (ps_ret (pv 0))))), ?_⟩
    obtain ⟨dx, ta, ha, hta⟩ := id ra
    refine ⟨_, rfl, sz1000 (by show 3 ≤ 1000; decide), fun tp H1 f1 s1 g1 => ?_⟩
    refine ⟨.ref y, tp, _, t, [.ref (ga K "Row"), .type "list", .type "tuple"], true, rfl, g1, .cons (.own _) (.cons (.ty _) (.cons (.ty _) .nil)), .inl ((op.same s1).ty T), op.kit T, _, rfl, ?_⟩
    refine iteF ?_
    have la := its_len ia
    refine ⟨_, rfl, _, rfl, "^", a, y, us0, xs, ps.map some, os, rfl, (its_src (row_seq ra) ia (by omega)).same s1, S.same s1, fun ps' qs e1 up1 few1 e2 up2 few2 => ?_, fun z f v bad => (bad_up up few bad).elim, fun z f v bad d H' s' g' => kb z f v bad d H' (s1.trans s') g'⟩
    have ep := some_inj e1
    subst ep
    obtain ⟨k1, k2⟩ := kg qs e2 up2 few2
    refine ⟨k1, fun ns R => ⟨fun few3 x H2 us n2 s2 r2 i2 => ?_, fun big d H2 s2 g2 => (k2 ns R).2 big d H2 (s1.trans s2) g2⟩⟩
    obtain ⟨dr, tr, hr2, htr⟩ := r2
    have s12 := s1.trans s2
    have ha2 := s12 _ _ ha
    refine ⟨x, _, dr, _, _, rfl, hr2, T.clsR, T.naR, rfl, ?_⟩
    refine ⟨_, rfl, a, _, dx, _, rfl, ha2, T.clsR, T.naR, (by show 1 < 1000; decide), ?_⟩
    have nt : tr ≠ a := fun z => by
      rw [z, ha2] at htr
      cases htr
    refine ⟨_, rfl, (k2 ns R).1 few3 _ us ((But.of s12).trans But.upd) ⟨dx, tr, upd_same, by rw [upd_ne nt]; exact htr⟩ (its_put1 (fs := []) ha2 i2)⟩
end
end K09
/-! Gow: x[i] and «y in x» by x's own __getitem__, __contains__. -/
namespace Tw
open PySem PySem.Spec PyProof.Rows L2
section
variable {X : Cx} {CX : CXT} {k : Nat} {f C : Addr} {fd : FuncData} {ps : List Str} {sp : Sp} {E : XK}
def rIxOwn (C : Addr) (sp : Sp) (E : XK) : R2 := fun x y H Q => ∃ (a dx : Addr) (fs : List (Str × V)), x = .ref a ∧ H a = some (.ins C dx fs) ∧ sp [x, y] H Q E
theorem fnIn_of {K : PySem.W.Frag} {f : Addr} {x qual : Str} {params : Arguments} {body : List Stmt} {scope : Scope} {dvs : List V} {kws : List (Str × V)} {fd : FuncData} (F : FunD K x qual params body scope dvs kws f fd) : PySem.W.fnIn K f = true := by
  obtain ⟨oc, od, dV, kV, doc, pm, an, cdv, ct, osl, rfl, lk, _⟩ := F.ex
  unfold PySem.W.fnIn
  rw [lk]
theorem pe_ixOwn {a b : Expr} {ta tb : TE} {pos : Pos} (hs : PySem.W.findIn X.K (.ref C) "__getitem__" = some (some (.ref f))) (hf : PySem.W.isFn X.K (.ref f) = true) (hfn : PySem.W.fnIn X.K f = true) (F : FnOk X.prog X.w X.K X.mg X.base CX k f fd ps sp) (hr : Room (k + 1) X.A) (hb : Binds X.K fd ps []) (hx : Passes CX X E)
    (ha : PE X a ta) (hb2 : PE X b tb) (hsl : ∀ v u, subscripted b true v u = runValue (.builtin "lifetime.subscript" ⟨[v, u], []⟩) := by intro _ _; rfl) : PE X (.Subscript a b pos) (tOp (rIxOwn C sp E) ta tb) := by
  refine ⟨fun pins s σ H Q I h => Subscript_ (thn (ha.run pins s σ H _ I h) fun v s1 ⟨x, H1, I1, rx, q1⟩ => thn (hb2.run pins s1 σ H1 _ I1 q1) fun u s2 ⟨y, H2, I2, ry, q2⟩ => ?_)⟩
  obtain ⟨p, dx, fs, rfl, ea, q⟩ := q2
  cases (show v = Value.ref p from rx)
  obtain ⟨od, ox, J⟩ := inst_at I2 ea
  obtain ⟨m, hF⟩ := I2.fr
  exact PySem.W.sub_K hF I2.ok.mod.kin J hs hfn hf (run_in1 (us := [.ref p, u]) (vs := [.ref p, y]) F hr hb hx I2 (.cons rfl (.cons ry .nil)) q) (hsl _ _)
/-- y in x -/
def rHasOwn (C : Addr) (sp : Sp) (E : XK) : R2 := fun y x H Q => ∃ (a dx : Addr) (fs : List (Str × V)), x = .ref a ∧ H a = some (.ins C dx fs) ∧ sp [x, y] H (fun z H' => ∃ b, z = .bl b ∧ Q (.bl b) H') E
theorem op_inOwn (hs : PySem.W.findIn X.K (.ref C) "__contains__" = some (some (.ref f))) (hf : PySem.W.isFn X.K (.ref f) = true) (F : FnOk X.prog X.w X.K X.mg X.base CX k f fd ps sp) (hr : Room k X.A) (hb : Binds X.K fd ps []) (hx : Passes CX X E) : OpR X (compareOp .In) (rHasOwn C sp E) := by
  intro pins s σ H y x u v Q I ry rx h
  obtain ⟨a, dx, fs, rfl, ea, q⟩ := h
  cases (show v = Value.ref a from rx)
  obtain ⟨od, ox, J⟩ := inst_at I ea
  refine wpAny_bind (m := contains (.ref a) u) ?_
  unfold contains
  refine wpAny_holding ?_
  have e0 : stdlibNamesSay? (.ref a) u = none := rfl
  have sp0 : PySem.W.Looks (model X.prog X.w) s.heap (specialOf (.ref a) "__contains__") (some (.ref f)) := J.type.andThen (PySem.W.looks_findIn I.kIn hs)
  simp only [e0]
  refine wpAny_bind (sp0.here ?_)
  rw [if_neg (by intro z; cases z)]
  unfold callSpecialUnlessNone?
  refine wpAny_bind (wpAny_bind (sp0.here (wpAny_holding (wpAny_bind ((PySem.W.bind_fn I.kIn _ (beq_iff_eq.mp hf)).here ?_)))))
  show wpAny _ X.A (if ((Value.ref f == Value.none) = true) then _ else _) _ _ s
  rw [if_neg (by intro z; cases z)]
  refine wpAny_bind (wpAny_mono (run_fn (dvs := []) (ds := []) (us := [.ref a, u]) (vs := [.ref a, y]) F hr hb .nil hx I (.cons rfl (.cons ry .nil)) q) (fun w s' z => ?_) fun _ _ x => x)
  obtain ⟨z', H', I', rz, b, rfl, qz⟩ := z
  cases (show w = Value.bool b from rz)
  exact wpAny_pure (wpAny_truthy_bool (wpAny_pure ⟨.bl b, H', I', rfl, qz⟩))
end
end Tw
namespace K09
open PySem PySem.Spec PyProof.Rows L2 He Tw
abbrev s_str : Stmt := inClass (topS 27) 6
abbrev N_str : List Str := ["self", "first", "behind"]
theorem sc_str : FnScope N_str N_str (defScope s_str) := ⟨rfl, rfl, rfl, by decide +kernel, rfl, by decide +kernel, by decide +kernel⟩
/-- the items from f to ahead of b -/
def spStr (K : Fg) : Sp := fun vs H Q E => ∃ (a : Addr) (f b : Int) (ys : List V) (ps : List (Int × Str)), vs = [.ref a, .int f, .int b] ∧ RowAt K H a ys ∧ Its K H ys ps ∧ ps.length ≤ 400 ∧
  ((0 ≤ f ∧ f ≤ ps.length ∧ f ≤ b ∧ b ≤ ps.length) → ∀ (l : Addr) (H' : Hp), H l = none → Same H H' → H' l = some (.lst ((ys.take b.toNat).drop f.toNat)) → Q (.ref l) H') ∧
  (¬ (0 ≤ f ∧ f ≤ ps.length) → ∀ (d : Addr) (H' : Hp), Same H H' → H' d = some (.xd [("at", .int f)]) → E (.ref (ga K "BadPlace")) (some d) H') ∧
  ((0 ≤ f ∧ f ≤ ps.length) → ¬ (f ≤ b ∧ b ≤ ps.length) → ∀ (d : Addr) (H' : Hp), Same H H' → H' d = some (.xd [("at", .int b)]) → E (.ref (ga K "BadPlace")) (some d) H')
abbrev s_get : Stmt := inClass (topS 27) 5
abbrev N_get : List Str := ["self", "at", "first", "behind"]
theorem sc_get : FnScope N_get ["self", "at"] (defScope s_get) := ⟨rfl, rfl, rfl, by decide +kernel, rfl, by decide +kernel, by decide +kernel⟩
def spGet (K : Fg) : Sp := fun vs H Q E => (∃ (a : Addr) (i : Int) (ys : List V) (ps : List (Int × Str)), vs = [.ref a, .int i] ∧ RowAt K H a ys ∧ Its K H ys ps ∧ ps.length ≤ 400 ∧
    ((0 ≤ i ∧ i < ps.length) → ∀ (o : V), ys[i.toNat]? = some o → Q o H) ∧
    (¬ (0 ≤ i ∧ i < ps.length) → ∀ (d : Addr) (H' : Hp), Same H H' → H' d = some (.xd [("at", .int i)]) → E (.ref (ga K "BadPlace")) (some d) H')) ∨
  ∃ (a t : Addr) (f b : Int), vs = [.ref a, .ref t] ∧ H t = some (.tup [.int f, .int b]) ∧ spStr K [.ref a, .int f, .int b] H Q E
theorem cut_both (xs : List V) {f b : Int} (h0 : 0 ≤ f) (h1 : f ≤ b) (h2 : b ≤ xs.length) : cutV xs (some f) (some b) = (xs.take b.toNat).drop f.toNat := by
  obtain ⟨m, rfl⟩ : ∃ m : Nat, f = (m : Int) := ⟨f.toNat, by omega⟩
  obtain ⟨n, rfl⟩ : ∃ n : Nat, b = (n : Int) := ⟨b.toNat, by omega⟩
  unfold cutV
  rw [HT.sIx_nat, HT.sIx_nat, Int.toNat_natCast, Int.toNat_natCast, Nat.min_eq_left (by omega), Nat.min_eq_left (by omega), List.drop_take]
section
variable {P : Program} {w : World} {K : Fg} {mg : Str → Option Value} {base : Heap} {fd : Nat → FuncData}
theorem G_str (D : DefsK K fd) (T : Txt K mg) : FnOk P w K mg base (L2.CX P w) 3 (ma K (ga K "Row") "stretch") (fd 44) N_str (spStr K) := by
  have zlen : mg "len" = none := T.bl (by decide +kernel)
  have zlist : mg "list" = none := T.bl (by decide +kernel)
  have gB : mg "BadPlace" = some (.ref (ga K "BadPlace")) := T.cl (by decide +kernel)
  have mB : (("BadPlace", 6, "at") : Str × Nat × Str) ∈ errs := by decide +kernel
  obtain ⟨iB, tB⟩ := T.ini mB
  have G_bad : FnOk P w K mg base CX0 1 _ (fd 1) ["self", "at"] (spIni (ga K "BadPlace") "at") := ok_BadPlace (D 1 _ rfl) T
  have b_bad : Binds K (fd 1) ["self", "at"] [] := (show FnP K "__init__" "BadPlace.__init__" (s_err 6) (ma K (ga K "BadPlace") "__init__") (fd 1) from D 1 _ rfl).bindsN fun _ _ _ _ _ _ us hl => match us, hl with | [_, _], _ => rfl
  have F : FnP K "stretch" "Row.stretch" s_str (ma K (ga K "Row") "stretch") (fd 44) := D 44 _ rfl
  refine F.ok sc_str (fun vs H Q E h => ?_) (fun cdv A outer s H vs Q E hr h => ?_)
  · obtain ⟨a, f, b, ys, ps, rfl, _⟩ := h
    rfl
  · obtain ⟨a, f, b, ys, ps, rfl, hA, its, hn, k1, k2, k3⟩ := h
    refine ⟨_, (pss_cons (ps_if (pt_not (pt_chain op_le op_le pe_int (pv 1) (pe_callB call_len (by rfl) zlen (by decide +kernel) (pa_cons (pe_fld (pv 0) rfl) pa_nil)))) (pss_one (ps_raise rfl (takes_of rfl rfl rfl rfl) (pmk_oex (T.xc mB).ox iB tB G_bad (hr.mono (by decide)) b_bad .nil pass0 rfl gB (pa_cons (pv 1) pa_nil)))) pss_nil)
    (pss_cons (ps_if (pt_not (pt_chain op_le op_le (pv 1) (pv 2) (pe_callB call_len (by rfl) zlen (by decide +kernel) (pa_cons (pe_fld (pv 0) rfl) pa_nil)))) (pss_one (ps_raise rfl (takes_of rfl rfl rfl rfl) (pmk_oex (T.xc mB).ox iB tB G_bad (hr.mono (by decide)) b_bad .nil pass0 rfl gB (pa_cons (pv 2) pa_nil)))) pss_nil)
    (pss_one (ps_ret (pe_callTy call_list_of (by rfl) zlist (by decide +kernel) (pa_cons (pe_slice sl_tupA (pe_fld (pv 0) rfl) (po_some (pv 1)) (po_some (pv 2))) pa_nil)))))), ?_⟩
    obtain ⟨dx, t, ha, ht⟩ := id hA
    have ln := its_len its
    refine ⟨_, rfl, _, _, rfl, rfl, _, rfl, ?_⟩
    refine ite2 (fun h0 => ?_) (fun h0 => ?_)
    · refine ⟨_, rfl, a, _, dx, _, _, rfl, ha, T.clsR, T.naR, rfl, _, _, rfl, .inr ⟨_, SqT.of ht, rfl⟩, _, _, rfl, rfl, _, rfl, ?_⟩
      have f0 : 0 ≤ f := of_decide_eq_true h0
      cases h1 : decide (f ≤ (ys.length : Int)) with
      | false =>
        have n1 : ¬ f ≤ (ys.length : Int) := of_decide_eq_false h1
        exact iteT ⟨_, rfl, err_out fun d H5 s5 e5 => k2 (fun z => n1 (by omega)) d H5 s5 e5⟩
      | true =>
        have l1 : f ≤ (ys.length : Int) := of_decide_eq_true h1
        refine iteF ?_
        refine ⟨_, rfl, _, rfl, _, _, rfl, rfl, _, rfl, ?_⟩
        have ff : 0 ≤ f ∧ f ≤ (ps.length : Int) := ⟨f0, by omega⟩
        refine ite2 (fun h2 => ?_) (fun h2 => ?_)
        · refine ⟨_, rfl, a, _, dx, _, _, rfl, ha, T.clsR, T.naR, rfl, _, _, rfl, .inr ⟨_, SqT.of ht, rfl⟩, _, _, rfl, rfl, _, rfl, ?_⟩
          have b0 : f ≤ b := of_decide_eq_true h2
          cases h3 : decide (b ≤ (ys.length : Int)) with
          | false =>
            have n3 : ¬ b ≤ (ys.length : Int) := of_decide_eq_false h3
            exact iteT ⟨_, rfl, err_out fun d H5 s5 e5 => k3 ff (fun z => n3 (by omega)) d H5 s5 e5⟩
          | true =>
            have l3 : b ≤ (ys.length : Int) := of_decide_eq_true h3
            refine iteF ?_
            have cb := cut_both ys f0 b0 l3
            have ok := k1 ⟨f0, ff.2, b0, by omega⟩
            refine ⟨_, rfl, a, _, dx, _, _, rfl, ha, T.clsR, T.naR, rfl, _, rfl, f, rfl, _, rfl, b, rfl, t, ys, rfl, SqT.of ht, fun hw => ⟨t, ys, rfl, .inr (SqT.of ht), fun l hl => ok l _ hl (same_new hl) ?_⟩, fun hw q hq => ⟨q, _, rfl, .inr (SqT.of upd_same), fun l hl => ok l _ ?_ ((same_new hq).trans (same_new hl)) ?_⟩⟩
            · rw [upd_same, ← cb]
              unfold cutV
              rw [hw.1, hw.2]
              simp
            · exact (same_new (o := .tup (cutV ys (some f) (some b))) hq).free hl
            · rw [upd_same, cb]
        · exact ⟨_, rfl, iteT ⟨_, rfl, err_out fun d H5 s5 e5 => k3 ff (fun z => h2 (decide_eq_true z.1)) d H5 s5 e5⟩⟩
    · exact ⟨_, rfl, iteT ⟨_, rfl, err_out fun d H5 s5 e5 => k2 (fun z => h0 (decide_eq_true z.1)) d H5 s5 e5⟩⟩
theorem G_get (D : DefsK K fd) (T : Txt K mg) : FnOk P w K mg base (L2.CX P w) 4 (ma K (ga K "Row") "__getitem__") (fd 43) ["self", "at"] (spGet K) := by
  have zlen : mg "len" = none := T.bl (by decide +kernel)
  have zisi : mg "isinstance" = none := T.bl (by decide +kernel)
  have ztup : mg "tuple" = none := T.bl (by decide +kernel)
  have gB : mg "BadPlace" = some (.ref (ga K "BadPlace")) := T.cl (by decide +kernel)
  have mB : (("BadPlace", 6, "at") : Str × Nat × Str) ∈ errs := by decide +kernel
  obtain ⟨iB, tB⟩ := T.ini mB
  have G_bad : FnOk P w K mg base CX0 1 _ (fd 1) ["self", "at"] (spIni (ga K "BadPlace") "at") := ok_BadPlace (D 1 _ rfl) T
  have b_bad : Binds K (fd 1) ["self", "at"] [] := (show FnP K "__init__" "BadPlace.__init__" (s_err 6) (ma K (ga K "BadPlace") "__init__") (fd 1) from D 1 _ rfl).bindsN fun _ _ _ _ _ _ us hl => match us, hl with | [_, _], _ => rfl
  have F : FnP K "__getitem__" "Row.__getitem__" s_get (ma K (ga K "Row") "__getitem__") (fd 43) := D 43 _ rfl
  have FS : FnP K "stretch" "Row.stretch" s_str (ma K (ga K "Row") "stretch") (fd 44) := D 44 _ rfl
  have GS : FnOk P w K mg base (L2.CX P w) 3 _ (fd 44) N_str (spStr K) := G_str D T
  have bS : Binds K (fd 44) N_str [] := FS.bindsN fun _ _ _ _ _ _ us hl => match us, hl with | [_, _, _], _ => rfl
  have mS := T.mtR2 (m := "stretch") (by decide +kernel)
  refine F.ok sc_get (fun vs H Q E h => ?_) (fun cdv A outer s H vs Q E hr h => ?_)
  · rcases h with ⟨a, i, ys, ps, rfl, _⟩ | ⟨a, t, f, b, rfl, _⟩ <;> rfl
  · refine ⟨_, (pss_cons (ps_if (pt_val (pe_callB call_isA (by rfl) zisi (by decide +kernel) (pa_cons (pv 1) (pa_cons (pe_bltn (v := .ty "tuple") (by rfl) ztup (by decide +kernel) rfl) pa_nil))))
      (pss_cons (ps_asg (pv 1) (pg_tup (by rfl) (pgs_cons (pg_name (i := 2) sc_get.nd rfl (Or.inl rfl)) (pgs_cons (pg_name (i := 3) sc_get.nd rfl (Or.inl rfl)) pgs_nil))))
      (pss_one (ps_ret (pe_meth (E := E) (pv 0) T.clsR mS GS (hr.mono (by decide)) bS .nil (passes_call (takes_of rfl rfl rfl rfl) (fun _ _ _ _ h => h)) (pa_cons (pv 2) (pa_cons (pv 3) pa_nil)))))) pss_nil)
    (pss_cons (ps_if (pt_not (pt_chain op_le op_lt pe_int (pv 1) (pe_callB call_len (by rfl) zlen (by decide +kernel) (pa_cons (pe_fld (pv 0) rfl) pa_nil)))) (pss_one (ps_raise rfl (takes_of rfl rfl rfl rfl) (pmk_oex (T.xc mB).ox iB tB G_bad (hr.mono (by decide)) b_bad .nil pass0 rfl gB (pa_cons (pv 1) pa_nil)))) pss_nil)
    (pss_one (ps_ret (pe_ix ix_tup (pe_fld (pv 0) rfl) (pv 1) (fun _ _ => rfl)))))), ?_⟩
    rcases h with ⟨a, i, ys, ps, rfl, hA, its, hn, k1, k2⟩ | ⟨a, t, f, b, rfl, ht, h⟩
    · obtain ⟨dx, t, ha, ht⟩ := id hA
      have ln := its_len its
      refine ⟨_, rfl, .int i, .ty "tuple", _, _, _, rfl, .ty "tuple", .inl (Bv.int i).ty, kit_ty (r := false) (by decide +kernel), _, rfl, iteF ?_⟩
      refine ⟨_, rfl, _, _, rfl, rfl, _, rfl, ?_⟩
      refine ite2 (fun h0 => ?_) (fun h0 => ?_)
      · refine ⟨_, rfl, a, _, dx, _, _, rfl, ha, T.clsR, T.naR, rfl, _, _, rfl, .inr ⟨_, SqT.of ht, rfl⟩, _, _, rfl, rfl, _, rfl, ?_⟩
        have i0 : 0 ≤ i := of_decide_eq_true h0
        cases h1 : decide (i < (ys.length : Int)) with
        | false =>
          have n1 : ¬ i < (ys.length : Int) := of_decide_eq_false h1
          exact iteT ⟨_, rfl, err_out fun d H5 s5 e5 => k2 (fun z => n1 (by omega)) d H5 s5 e5⟩
        | true =>
          have l1 : i < (ys.length : Int) := of_decide_eq_true h1
          refine iteF ?_
          have hlt : i.toNat < ys.length := by omega
          have hy : ys[i.toNat]? = some ys[i.toNat] := List.getElem?_eq_getElem hlt
          refine ⟨_, rfl, a, _, dx, _, _, rfl, ha, T.clsR, T.naR, rfl, _, rfl, t, ys, i, _, rfl, rfl, SqT.of ht, ?_, k1 ⟨i0, by omega⟩ _ hy⟩
          have := atI_nat hy
          rwa [Int.toNat_of_nonneg i0] at this
      · exact ⟨_, rfl, iteT ⟨_, rfl, err_out fun d H5 s5 e5 => k2 (fun z => h0 (decide_eq_true z.1)) d H5 s5 e5⟩⟩
    · refine ⟨_, rfl, .ref t, .ty "tuple", _, _, _, rfl, .ty "tuple", .inl (Bv.tup ht).ty, kit_ty (r := true) (by decide +kernel), _, rfl, iteT ?_⟩
      obtain ⟨a', f', b', ys, ps, e, hA, r⟩ := id h
      cases e
      obtain ⟨dx, tt, ha, _⟩ := id hA
      exact ⟨_, rfl, t, _, rfl, SqT.of ht, rfl, _, _, rfl, _, _, rfl, rfl, _, rfl, a, dx, _, rfl, ha, rfl, _, rfl, _, rfl, h⟩
end
end K09
namespace K09
open PySem PySem.Spec PyProof.Rows L2 He Tw
abbrev s_set : Stmt := inClass (topS 27) 7
abbrev N_set : List Str := ["self", "at", "worth", "found"]
theorem sc_set : FnScope N_set ["self", "at", "worth"] (defScope s_set) := ⟨rfl, rfl, rfl, by decide +kernel, rfl, by decide +kernel, by decide +kernel⟩
/-- row[at] = value -/
def spSet (K : Fg) : Sp := fun vs H Q E => ∃ (a : Addr) (i : Int) (x : V) (ys : List V) (ps : List (Int × Str)), vs = [.ref a, .int i, x] ∧ RowAt K H a ys ∧ Its K H ys ps ∧ ps.length ≤ 200 ∧
  (¬ (0 ≤ i ∧ i < ps.length) → ∀ (d : Addr) (H' : Hp), Same H H' → H' d = some (.xd [("at", .int i)]) → E (.ref (ga K "BadPlace")) (some d) H') ∧
  (0 ≤ i → i < ps.length → ∃ o, Vv K H x o ∧
    (∀ (ps' : List (Int × Str)), (ps.map some).set i.toNat o = ps'.map some → Up ps' ps'.length → ∀ (H' : Hp) (ys' : List V), But a H H' → RowAt K H' a ys' → Its K H' ys' ps' → Q .non H') ∧
    (∀ (n f : Str) (v : Int), Bad ((ps.map some).set i.toNat o) n f v → ∀ (d : Addr) (H' : Hp), Same H H' → H' d = some (.xd [(f, .int v)]) → E (.ref (ga K n)) (some d) H'))
theorem ixN_of {n : Nat} {i : Int} (h0 : 0 ≤ i) (h1 : i < n) : ixN n i = some i.toNat := by
  unfold ixN
  simp [h0, h1, Int.not_lt.mpr h0]
theorem its_set {K : Fg} {H : Hp} {ys : List V} {ps : List (Int × Str)} (h : Its K H ys ps) {n : Nat} {x : V} {o : Option (Int × Str)} (hx : Vv K H x o) : ∀ (i : Nat) (y : V), (ys.set n x)[i]? = some y → ∃ o', ((ps.map some).set n o)[i]? = some o' ∧ Vv K H y o' := by
  intro i y hy
  have hl := its_len h
  have hi : i < ys.length := by
    have := (List.getElem?_eq_some_iff.mp hy).1
    rwa [List.length_set] at this
  by_cases e : n = i
  · subst e
    rw [List.getElem?_set_self hi] at hy
    cases hy
    exact ⟨o, List.getElem?_set_self (by rw [List.length_map]; omega), hx⟩
  · rw [List.getElem?_set_ne e] at hy
    obtain ⟨b, eb, ib⟩ := its_at h (List.getElem?_eq_getElem (show i < ps.length by omega))
    rw [hy] at eb
    cases eb
    exact ⟨some ps[i], by rw [List.getElem?_set_ne e, List.getElem?_map, List.getElem?_eq_getElem]; rfl, .item ib⟩
section
variable {P : Program} {w : World} {K : Fg} {mg : Str → Option Value} {base : Heap} {fd : Nat → FuncData}
theorem b_set (D : DefsK K fd) : Binds K (fd 45) ["self", "at", "worth"] [] := (show FnP K "__setitem__" "Row.__setitem__" s_set (ma K (ga K "Row") "__setitem__") (fd 45) from D 45 _ rfl).bindsN fun _ _ _ _ _ _ us hl => match us, hl with | [_, _, _], _ => rfl
theorem G_set (D : DefsK K fd) (T : Txt K mg) : FnOk P w K mg base (L2.CX P w) 8 (ma K (ga K "Row") "__setitem__") (fd 45) ["self", "at", "worth"] (spSet K) := by
  have zlen : mg "len" = none := T.bl (by decide +kernel)
  have zlist : mg "list" = none := T.bl (by decide +kernel)
  have gR : mg "Row" = some (.ref (ga K "Row")) := T.cl (by decide +kernel)
  have gB : mg "BadPlace" = some (.ref (ga K "BadPlace")) := T.cl (by decide +kernel)
  have mB : (("BadPlace", 6, "at") : Str × Nat × Str) ∈ errs := by decide +kernel
  obtain ⟨iB, tB⟩ := T.ini mB
  have G_bad : FnOk P w K mg base CX0 1 _ (fd 1) ["self", "at"] (spIni (ga K "BadPlace") "at") := ok_BadPlace (D 1 _ rfl) T
  have b_bad : Binds K (fd 1) ["self", "at"] [] := (show FnP K "__init__" "BadPlace.__init__" (s_err 6) (ma K (ga K "BadPlace") "__init__") (fd 1) from D 1 _ rfl).bindsN fun _ _ _ _ _ _ us hl => match us, hl with | [_, _], _ => rfl
  have Gr : FnOk P w K mg base (L2.CX P w) 6 (ma K (ga K "Row") "__init__") (fd 6) ["self", "items"] (spRow K) := G_row D T
  have F : FnP K "__setitem__" "Row.__setitem__" s_set (ma K (ga K "Row") "__setitem__") (fd 45) := D 45 _ rfl
  refine F.ok sc_set (fun vs H Q E h => ?_) (fun cdv A outer s H vs Q E hr h => ?_)
  · obtain ⟨a, i, x, ys, ps, rfl, _⟩ := h
    rfl
  · obtain ⟨a, i, x, ys, ps, rfl, hA, its, hn, kb, kg⟩ := h
    refine ⟨_, (pss_cons (ps_if (pt_not (pt_chain op_le op_lt pe_int (pv 1) (pe_callB call_len (by rfl) zlen (by decide +kernel) (pa_cons (pe_fld (pv 0) rfl) pa_nil)))) (pss_one (ps_raise rfl (takes_of rfl rfl rfl rfl) (pmk_oex (T.xc mB).ox iB tB G_bad (hr.mono (by decide)) b_bad .nil pass0 rfl gB (pa_cons (pv 1) pa_nil)))) pss_nil)
    (pss_cons (ps_set (i := 3) sc_set.nd rfl (Or.inl rfl) (pe_callTy call_list_of (by rfl) zlist (by decide +kernel) (pa_cons (pe_fld (pv 0) rfl) pa_nil)))
    (pss_cons (ps_asg (pv 2) (pg_sub (pv 3) (pv 1) set_list))
    (pss_one (ps_fld (pv 0) (pe_fld (pe_makeS T.mkR Gr (hr.mono (by decide)) rfl gR (bRow D) (fun σ => passAt (takes_of rfl rfl rfl rfl) σ) (pa_cons (pv 3) pa_nil)) rfl) rfl))))), ?_⟩
    obtain ⟨dx, t, ha, ht⟩ := id hA
    have ln := its_len its
    have raise : ¬ (0 ≤ i ∧ i < ps.length) → ∀ (d : Addr) (H' : Hp), Same H H' → H' d = some (.xd [("at", .int i)]) → E (.ref (ga K "BadPlace")) (some d) H' := kb
    refine ⟨_, rfl, _, _, rfl, rfl, _, rfl, ?_⟩
    refine ite2 (fun h0 => ?_) (fun h0 => ?_)
    · refine ⟨_, rfl, a, _, dx, _, _, rfl, ha, T.clsR, T.naR, rfl, _, _, rfl, .inr ⟨_, SqT.of ht, rfl⟩, _, _, rfl, rfl, _, rfl, ?_⟩
      have i0 : 0 ≤ i := of_decide_eq_true h0
      cases h1 : decide (i < (ys.length : Int)) with
      | false =>
        have n1 : ¬ i < (ys.length : Int) := of_decide_eq_false h1
        exact iteT ⟨_, rfl, err_out fun d H5 s5 e5 => kb (fun z => n1 (by omega)) d H5 s5 e5⟩
      | true =>
        have l1 : i < (ys.length : Int) := of_decide_eq_true h1
        obtain ⟨o, hv, kok, kbad⟩ := kg i0 (by omega)
        refine iteF ?_
        refine ⟨_, rfl, a, _, dx, _, _, rfl, ha, T.clsR, T.naR, rfl, t, ys, rfl, .inr (SqT.of ht), fun l hl => ?_⟩
        have s1 := same_new (o := .lst ys) hl
        have hat : a ≠ l := ne_of_none ha hl
        have htt : t ≠ l := ne_of_none ht hl
        refine ⟨_, rfl, _, rfl, _, rfl, l, ys, i, i.toNat, rfl, rfl, upd_same, ?_, ?_⟩
        · exact ixN_of i0 l1
        · rw [upd_upd]
          have s2 : Same H (upd H l (.lst (ys.set i.toNat x))) := same_new hl
          have gl : (upd H l (.lst (ys.set i.toNat x))) l = some (.lst (ys.set i.toNat x)) := upd_same
          have ha2 := s2 _ _ ha
          generalize upd H l (.lst (ys.set i.toNat x)) = H2 at s2 gl ha2 ⊢
          refine ⟨_, rfl, fun b db hb hdb hne => ?_⟩
          have s3 := same_made (o := .own b) (u := .ins (ga K "Row") db []) hdb hb hne
          have itsH := its
          refine ⟨b, l, db, ys.set i.toNat x, (ps.map some).set i.toNat o, rfl, upd_same, ⟨.inl (SqL.of (s3 _ _ gl)), ?_, ?_, ?_⟩, fun ps' e up few H4 ys' B4 r4 i4 => ?_, fun n f v bad d H4 s4 e4 => ?_⟩
          · rw [List.length_set]
            omega
          · rw [List.length_set, List.length_set, List.length_map]
            exact ln.symm
          · exact its_set ((its.same s2).same s3) ((hv.same s2).same s3)
          · have S4 : Same H2 H4 := same_but s3 B4 hb
            obtain ⟨db4, t4, hb4, ht4⟩ := id r4
            have ha4 := S4 _ _ ha2
            refine ⟨rfl, b, _, db4, _, _, rfl, hb4, T.clsR, T.naR, rfl, _, rfl, a, _, dx, _, rfl, ha4, T.clsR, T.naR, (by show 1 < 1000; decide), ?_⟩
            have hat4 : t4 ≠ a := fun z => by
              rw [z, ha4] at ht4
              cases ht4
            refine kok ps' e up _ ys' ((But.of (s2.trans S4)).trans But.upd) ⟨dx, t4, upd_same, by rw [upd_ne hat4]; exact ht4⟩ (its_put (fun dx' i z e => ?_) i4)
            rw [ha4] at e
            exact nomatch (HO.ins.inj (Option.some.inj e)).2.2
          · exact kbad n f v bad d H4 ((s2.trans s3).trans s4) e4
    · have n0 : ¬ 0 ≤ i := fun z => h0 (decide_eq_true z)
      refine ⟨_, rfl, ?_⟩
      exact iteT ⟨_, rfl, err_out fun d H5 s5 e5 => kb (fun z => n0 z.1) d H5 s5 e5⟩
end
end K09
namespace K09
open PySem PySem.Spec PyProof.Rows L2 He Tw
abbrev s_ti : Stmt := inClass (topS 25) 0
theorem sc_ti : FnScope ["self", "owner"] ["self", "owner"] (defScope s_ti) := ⟨rfl, rfl, rfl, by decide +kernel, rfl, by decide +kernel, by decide +kernel⟩
abbrev s_te : Stmt := inClass (topS 25) 1
theorem sc_te : FnScope ["self"] ["self"] (defScope s_te) := ⟨rfl, rfl, rfl, by decide +kernel, rfl, by decide +kernel, by decide +kernel⟩
abbrev s_tri : Stmt := inClass (topS 27) 33
theorem sc_tri : FnScope ["self"] ["self"] (defScope s_tri) := ⟨rfl, rfl, rfl, by decide +kernel, rfl, by decide +kernel, by decide +kernel⟩
/-- a trial of the row at a, that keeps the tuple at s -/
def TrAt (K : Fg) (H : Hp) (t a s : Addr) : Prop := ∃ dx, H t = some (.ins (ga K "Trial") dx [("owner", .ref a), ("kept", .ref s)])
/-- the row at a has the tuple at s -/
def StAt (K : Fg) (H : Hp) (a s : Addr) : Prop := ∃ dx, H a = some (.ins (ga K "Row") dx [("state", .ref s)])
def spTi (K : Fg) : Sp := fun vs H Q _ => ∃ (t dx a s : Addr), vs = [.ref t, .ref a] ∧ H t = some (.ins (ga K "Trial") dx []) ∧ StAt K H a s ∧ ∀ H', But t H H' → TrAt K H' t a s → Q .non H'
def spTe (K : Fg) : Sp := fun vs H Q _ => ∃ (t a s0 s : Addr), vs = [.ref t] ∧ TrAt K H t a s0 ∧ StAt K H a s ∧ ∀ H', But t H H' → TrAt K H' t a s → Q (.ref a) H'
def spTri (K : Fg) : Sp := fun vs H Q _ => ∃ (a s : Addr), vs = [.ref a] ∧ StAt K H a s ∧ ∀ (t : Addr) (H' : Hp), H t = none → Same H H' → TrAt K H' t a s → Q (.ref t) H'
section
variable {P : Program} {w : World} {K : Fg} {mg : Str → Option Value} {base : Heap} {fd : Nat → FuncData}
theorem ok_ti {f : Addr} {fd : FuncData} (F : FnP K "__init__" "Trial.__init__" s_ti f fd) (T : Txt K mg) : FnOk P w K mg base CX0 1 f fd ["self", "owner"] (spTi K) := by
  refine F.ok sc_ti (fun vs H Q E h => ?_) (fun cdv A outer s H vs Q E hr h => ?_)
  · obtain ⟨t, dx, a, s, rfl, _⟩ := h
    rfl
  · obtain ⟨t, dx, a, s, rfl, ht, ⟨da, ha⟩, k⟩ := h
    refine ⟨_, PSs.nox (pss_cons (ps_fld (pv 0) (pv 1) rfl) (pss_one (ps_fld (pv 0) (pe_fld (pv 1) rfl) rfl))), ?_⟩
    have na : a ≠ t := fun z => by
      rw [z, ht] at ha
      simp at ha
    refine ⟨_, rfl, _, rfl, t, _, dx, _, rfl, ht, T.clsT, T.naT (by decide +kernel), (by show 0 < 1000; decide), ?_⟩
    refine ⟨_, rfl, a, _, da, _, _, rfl, by rw [upd_ne na]; exact ha, T.clsR, T.naR, rfl, _, rfl, t, _, dx, _, rfl, upd_same, T.clsT, T.naT (by decide +kernel), (by show 1 < 1000; decide), ?_⟩
    exact k _ (But.upd.trans But.upd) ⟨dx, upd_same⟩
theorem ok_te {f : Addr} {fd : FuncData} (F : FnP K "__enter__" "Trial.__enter__" s_te f fd) (T : Txt K mg) : FnOk P w K mg base CX0 1 f fd ["self"] (spTe K) := by
  refine F.ok sc_te (fun vs H Q E h => ?_) (fun cdv A outer s H vs Q E hr h => ?_)
  · obtain ⟨t, a, s0, s, rfl, _⟩ := h
    rfl
  · obtain ⟨t, a, s0, s, rfl, ⟨dx, ht⟩, ⟨da, ha⟩, k⟩ := h
    refine ⟨_, PSs.nox (pss_cons (ps_fld (pv 0) (pe_fld (pe_fld (pv 0) rfl) rfl) rfl) (pss_one (ps_ret (pe_fld (pv 0) rfl)))), ?_⟩
    refine ⟨_, rfl, t, _, dx, _, _, rfl, ht, T.clsT, T.naT (by decide +kernel), rfl, a, _, da, _, _, rfl, ha, T.clsR, T.naR, rfl, _, rfl, t, _, dx, _, rfl, ht, T.clsT, T.naT (by decide +kernel), (by show 2 < 1000; decide), ?_⟩
    refine ⟨_, rfl, t, _, dx, _, _, rfl, upd_same, T.clsT, T.naT (by decide +kernel), rfl, ?_⟩
    exact k _ But.upd ⟨dx, upd_same⟩
theorem ok_tri (D : DefsK K fd) (F : FnP K "trial" "Row.trial" s_tri (ma K (ga K "Row") "trial") (fd 47)) (T : Txt K mg) : FnOk P w K mg base CX0 3 (ma K (ga K "Row") "trial") (fd 47) ["self"] (spTri K) := by
  have gT : mg "Trial" = some (.ref (ga K "Trial")) := T.cl (by decide +kernel)
  have FT : FnP K "__init__" "Trial.__init__" s_ti (ma K (ga K "Trial") "__init__") (fd 49) := D 49 _ rfl
  have GT : FnOk P w K mg base CX0 1 _ (fd 49) ["self", "owner"] (spTi K) := ok_ti FT T
  have bT : Binds K (fd 49) ["self", "owner"] [] := FT.bindsN fun _ _ _ _ _ _ us hl => match us, hl with | [_, _], _ => rfl
  refine F.ok sc_tri (fun vs H Q E h => ?_) (fun cdv A outer s H vs Q E hr h => ?_)
  · obtain ⟨a, s, rfl, _⟩ := h
    rfl
  · obtain ⟨a, s, rfl, hs, k⟩ := h
    refine ⟨_, PSs.nox (pss_one (ps_ret (pe_make (E := E0) T.mkT GT (hr.mono (by decide)) rfl gT bT .nil pass0 (pa_cons (pv 0) pa_nil)))), ?_⟩
    refine ⟨_, rfl, fun t dx h1 h2 h3 => ?_⟩
    have sm := same_made (o := .own t) (u := .ins (ga K "Trial") dx []) h2 h1 h3
    obtain ⟨da, ha⟩ := hs
    exact ⟨t, dx, a, s, rfl, upd_same, ⟨da, sm _ _ ha⟩, fun H' B tr => ⟨rfl, k t H' h1 (same_but sm B h1) tr⟩⟩
end
end K09
/-! Grs: z[::-1] of a text. -/
namespace Tw
open PySem PySem.Spec PyProof.Rows L2
def revS (z : Str) : Str := ⟨z.cps.toList.reverse.toArray⟩
theorem revS_length (z : Str) : (revS z).length = z.length := by
  show z.cps.toList.reverse.toArray.size = z.cps.size
  rw [List.size_toArray, List.length_reverse, Array.length_toList]
theorem rev_ix (z : Str) : ((Builtin.Str.strSliceIndices none none (-1) z.length).filterMap (z.cps[·]?)).toArray = z.cps.toList.reverse.toArray := by
  show ((sliceRange ((z.cps.size : Int) - 1) (-1) (-1)).filterMap (z.cps[·]?)).toArray = _
  rw [PySem.W.krv_sliceRange, PySem.W.krv_range, List.filterMap_reverse, PySem.W.krv_all]
section
variable {X : Cx}
def tRevS (te : TE) : TE := fun σ H Q => te σ H fun x H1 => ∃ z, x = .str z ∧ z.length ≤ sizeLine ∧ Q (.str (revS z)) H1
theorem pe_revS {e : Expr} {te : TE} {k : Nat} {p1 p2 p3 pos : Pos} (he : PE X e te) : PE X (.Subscript e (.Slice none none (some (.UnaryOp .USub (.Constant (.int 1) k p1) p2)) p3) pos) (tRevS te) := by
  refine ⟨fun pins s σ H Q I h => ?_⟩
  refine Subscript_ (thn (he.run pins s σ H _ I h) fun v s1 ⟨x, H1, I1, r1, q1⟩ => ?_)
  obtain ⟨z, ex, hz, q⟩ := q1
  subst ex
  obtain ⟨t, rfl⟩ := r1
  have hst : PO X (some (.UnaryOp .USub (.Constant (.int 1) k p1) p2)) (tPart (tUn (rU fun i => .int (-i)) (tC (.int 1)))) := po_some (pe_un un_neg pe_int)
  refine wpAny_Slice (thn (po_none.run pins s1 σ H1 (fun o H2 => o = none ∧ H2 = H1) I1 ⟨rfl, rfl⟩) fun vl s2 ⟨l, H2, I2, pl, el, e2⟩ => ?_)
  subst el e2
  refine thn (po_none.run pins s2 σ H2 (fun o H3 => o = none ∧ H3 = H2) I2 ⟨rfl, rfl⟩) fun vu s3 ⟨u, H3, I3, pu, eu, e3⟩ => ?_
  subst eu e3
  refine thn (hst.run pins s3 σ H3 (fun o H4 => o = some (-1) ∧ H4 = H3) I3 ⟨1, rfl, -1, rfl, rfl, rfl⟩) fun vs s4 ⟨o, H4, I4, ps, eo, e4⟩ => ?_
  subst eo e4
  have I5 : Inv X pins σ H4 { s4 with heap := s4.heap.push { cls := .type "slice", data := .fields #[vl, vu, vs] } } := I4.kept (t' := s4.toks) fun b ob q => Heap.get?_push_of_some _ q
  show wpAny (model X.prog X.w) X.A (subscriptTail e (.Slice none none (some (.UnaryOp .USub (.Constant (.int 1) k p1) p2)) p3) (.str z t) (.ref s4.heap.objs.size)) (EP X pins σ Q) X.xe { s4 with heap := s4.heap.push { cls := .type "slice", data := .fields #[vl, vu, vs] } }
  obtain ⟨l, rfl, hl⟩ := IsPart.raw pl
  obtain ⟨u, rfl, hu⟩ := IsPart.raw pu
  obtain ⟨st, rfl, hs⟩ := IsPart.raw ps
  refine tail_any (T := "str") (ops := [.str z t, .ref s4.heap.objs.size]) (typeIs_str _ _ _) (PySem.F.slot_str_getitem.lookup) ?_ (by with_unfolding_all rfl)
  refine wpAny_getItem_str_slice (l := l) (u := u) (st := st) ⟨_, Heap.get?_push_size _ rfl, rfl, rfl⟩ (by rw [hs]; rfl) ?_
  obtain rfl : l = none := by
    cases l with
    | none => rfl
    | some x => cases hl
  obtain rfl : u = none := by
    cases u with
    | none => rfl
    | some x => cases hu
  obtain ⟨t1, rfl⟩ : ∃ t1, st = some (-1, t1) := by
    cases st with
    | none => cases hs
    | some x =>
      obtain ⟨i, t1⟩ := x
      cases hs
      exact ⟨t1, rfl⟩
  have hc : ¬ (((-1 : Int) == 1 && (Builtin.Str.strSliceIndices none none (-1) z.length).length == z.length) = true) := by
    rw [show ((-1 : Int) == 1) = false from by decide, Bool.false_and]
    exact Bool.false_ne_true
  have hl' : (revS z).length ≤ sizeLine := by rw [revS_length]; exact hz
  unfold revS at q hl'
  rw [← rev_ix] at q hl'
  show Made.post (if ((-1 : Int) == 1 && (Builtin.Str.strSliceIndices none none (-1) z.length).length == z.length) = true then Made.val (.str z t) else Made.str ⟨((Builtin.Str.strSliceIndices none none (-1) z.length).filterMap (z.cps[·]?)).toArray⟩) (EP X pins σ Q) _
  rw [if_neg hc]
  exact ⟨hl', .str _, H4, I5.tok _, ⟨_, rfl⟩, q⟩
end
end Tw
namespace K09
open PySem PySem.Spec PyProof.Rows L2 He Tw
abbrev s_ans : Stmt := topS 38
theorem sc_ans : FnScope ["_law_way", "_law_name"] ["_law_way", "_law_name"] (defScope s_ans) := ⟨rfl, rfl, rfl, by decide +kernel, rfl, by decide +kernel, by decide +kernel⟩
/-- what the callable of this way answers for a name -/
def ansV (i : Nat) (z : Str) : V := match i with
  | 0 => .str z
  | 1 => .int (0 - (z.length : Nat))
  | 2 => .int 5
  | _ => .str (revS z)
def spAns : Sp := fun vs H Q _ => ∃ (i : Nat) (z : Str), vs = [.int (i : Nat), .str z] ∧ i < 4 ∧ z.length ≤ 1000 ∧ ∀ H', Same H H' → Q (ansV i z) H'
section
variable {P : Program} {w : World} {K : Fg} {mg : Str → Option Value} {base : Heap} {fd : Nat → FuncData}
theorem ok_ans {f : Addr} {fd : FuncData} (F : FnP K "_law_answer" "_law_answer" s_ans f fd) (T : Txt K mg) : FnOk P w K mg base CX0 1 f fd ["_law_way", "_law_name"] spAns := by
  have zlen : mg "len" = none := T.bl (by decide +kernel)
  refine F.ok sc_ans (fun vs H Q E h => ?_) (fun cdv A outer s H vs Q E hr h => ?_)
  · obtain ⟨i, z, rfl, _⟩ := h
    rfl
  · obtain ⟨i, z, rfl, hi, hz, k⟩ := h
    refine ⟨_, PSs.nox (pss_one (ps_ret (pe_ix (ixl K) (pe_lstN (pa_cons (pv 1) (pa_cons (pe_op op_sub pe_int (pe_callB call_len (by rfl) zlen (by decide +kernel) (pa_cons (pv 1) pa_nil))) (pa_cons pe_int (pa_cons (pe_revS (pv 1)) pa_nil))))) (pv 0) (fun _ _ => rfl)))), ?_⟩
    have hz' : z.length ≤ sizeLine := Nat.le_trans hz (by decide)
    refine ⟨_, rfl, _, rfl, .str z, z.length, rfl, ⟨hz', rfl⟩, _, _, rfl, rfl, _, rfl, z, rfl, hz', sz1000 (by show 4 ≤ 1000; decide), fun q H1 f1 m1 s1 g1 => ?_⟩
    refine ⟨_, rfl, q, _, _, ansV i z, rfl, rfl, SqL.of g1, atI_nat ?_, k H1 s1⟩
    match i, hi with
    | 0, _ => rfl
    | 1, _ => rfl
    | 2, _ => rfl
    | 3, _ => rfl
end
end K09
namespace K09
open PySem PySem.Spec PyProof.Rows L2 He Tw
/-- one answer is before another one -/
def ltV : V → V → Bool
  | .int i, .int j => decide (i < j)
  | .str a, .str b => decide (a.cps.toList < b.cps.toList)
  | _, _ => false
def rLtA : R2 := fun x y H Q => ((∃ i j, x = .int i ∧ y = .int j) ∨ ∃ a b, x = .str a ∧ y = .str b) ∧ Q (.bl (ltV x y)) H
theorem op_ltA {X : Cx} : OpR X (compareOp .Lt) rLtA := by
  intro pins s σ H x y v u Q I rx ry h
  obtain ⟨h | h, q⟩ := h
  · obtain ⟨i, j, rfl, rfl⟩ := h
    exact op_lt pins s σ H _ _ v u Q I rx ry ⟨i, j, rfl, rfl, q⟩
  · obtain ⟨a, b, rfl, rfl⟩ := h
    exact op_lt_str pins s σ H _ _ v u Q I rx ry ⟨a, b, rfl, rfl, q⟩
theorem ans_two (i : Nat) (z u : Str) : (∃ a b, ansV i z = .int a ∧ ansV i u = .int b) ∨ ∃ a b, ansV i z = .str a ∧ ansV i u = .str b := by
  unfold ansV
  match i with
  | 0 => exact .inr ⟨_, _, rfl, rfl⟩
  | 1 => exact .inl ⟨_, _, rfl, rfl⟩
  | 2 => exact .inl ⟨_, _, rfl, rfl⟩
  | _ + 3 => exact .inr ⟨_, _, rfl, rfl⟩
/-- where a pair goes behind n pairs that are in order: how far it moves back -/
def stepB (w : Nat) (q x : Int × Str) : Bool := decide (x.1 = q.1) && ltV (ansV w q.2) (ansV w x.2)
/-- the place of a pair among the first n -/
def placeN (w : Nat) (q : Int × Str) (ps : List (Int × Str)) : Nat → Nat
  | 0 => 0
  | n + 1 => match ps[n]? with
    | some x => if stepB w q x then placeN w q ps n else n + 1
    | none => n + 1
def putP (w : Nat) (q : Int × Str) (ps : List (Int × Str)) : List (Int × Str) := ps.take (placeN w q ps ps.length) ++ q :: ps.drop (placeN w q ps ps.length)
def settledL (w : Nat) (ps : List (Int × Str)) : List (Int × Str) := ps.foldl (fun acc q => putP w q acc) []
theorem placeN_le (w : Nat) (q : Int × Str) (ps : List (Int × Str)) : ∀ n, placeN w q ps n ≤ n
  | 0 => Nat.le_refl _
  | n + 1 => by
    unfold placeN
    split
    · split
      · exact Nat.le_succ_of_le (placeN_le w q ps n)
      · exact Nat.le_refl _
    · exact Nat.le_refl _
theorem putP_length (w : Nat) (q : Int × Str) (ps : List (Int × Str)) : (putP w q ps).length = ps.length + 1 := by
  unfold putP
  have := placeN_le w q ps ps.length
  rw [List.length_append, List.length_cons, List.length_take, List.length_drop]
  omega
theorem settledL_snoc (w : Nat) (ps : List (Int × Str)) (q : Int × Str) : settledL w (ps ++ [q]) = putP w q (settledL w ps) := by
  unfold settledL
  rw [List.foldl_append]
  rfl
theorem mem_putP {w : Nat} {q x : Int × Str} {ps : List (Int × Str)} (h : x ∈ putP w q ps) : x = q ∨ x ∈ ps := by
  unfold putP at h
  rcases List.mem_append.mp h with h | h
  · exact .inr (List.mem_of_mem_take h)
  · rcases List.mem_cons.mp h with h | h
    · exact .inl h
    · exact .inr (List.mem_of_mem_drop h)
theorem mem_fold {w : Nat} {x : Int × Str} : ∀ {ps acc : List (Int × Str)}, x ∈ ps.foldl (fun acc q => putP w q acc) acc → x ∈ acc ∨ x ∈ ps
  | [], acc, h => .inl h
  | q :: ps, acc, h => by
    rcases mem_fold (ps := ps) h with h | h
    · rcases mem_putP h with h | h
      · exact .inr (h ▸ List.mem_cons_self)
      · exact .inl h
    · exact .inr (List.mem_cons_of_mem _ h)
theorem mem_settledL {w : Nat} {x : Int × Str} {ps : List (Int × Str)} (h : x ∈ settledL w ps) : x ∈ ps := (mem_fold h).elim (fun z => nomatch z) id
theorem len_fold (w : Nat) : ∀ (ps acc : List (Int × Str)), (ps.foldl (fun acc q => putP w q acc) acc).length = acc.length + ps.length
  | [], acc => rfl
  | q :: ps, acc => by
    rw [List.foldl_cons, len_fold w ps, putP_length, List.length_cons]
    omega
theorem settledL_length (w : Nat) (ps : List (Int × Str)) : (settledL w ps).length = ps.length := by
  unfold settledL
  rw [len_fold]
  exact Nat.zero_add _
theorem paired_tk {α β : Type} {F : α → β → Prop} : ∀ {xs : List α} {ys : List β} (n : Nat), Paired F xs ys → Paired F (xs.take n) (ys.take n)
  | _, _, 0, _ => by rw [List.take_zero, List.take_zero]; exact .nil
  | _, _, _ + 1, .nil => .nil
  | _, _, n + 1, .cons h t => .cons h (paired_tk n t)
theorem paired_dp {α β : Type} {F : α → β → Prop} : ∀ {xs : List α} {ys : List β} (n : Nat), Paired F xs ys → Paired F (xs.drop n) (ys.drop n)
  | _, _, 0, h => h
  | _, _, _ + 1, .nil => .nil
  | _, _, n + 1, .cons _ t => paired_dp n t
theorem paired_ap {α β : Type} {F : α → β → Prop} {ys : List α} {zs : List β} (h : Paired F ys zs) : ∀ {xs : List α} {us : List β}, Paired F xs us → Paired F (xs ++ ys) (us ++ zs)
  | _, _, .nil => h
  | _, _, .cons a r => .cons a (paired_ap h r)
theorem iteTe {b : Bool} {A B : Prop} (e : b = true) (h : A) : if b = true then A else B := by
  rw [e]
  exact h
theorem iteFe {b : Bool} {A B : Prop} (e : b = false) (h : B) : if b = true then A else B := by
  rw [e]
  exact h
abbrev s_stl : Stmt := topS 39
abbrev N_stl : List Str := ["_law_pairs_here", "_law_way", "_law_found", "_law_rank", "_law_name", "_law_at"]
theorem sc_stl : FnScope N_stl ["_law_pairs_here", "_law_way"] (defScope s_stl) := ⟨rfl, rfl, rfl, by decide +kernel, rfl, by decide +kernel, by decide +kernel⟩
def spStl (K : Fg) : Sp := fun vs H Q _ => ∃ (f : Addr) (w : Nat) (ts : List V) (ps : List (Int × Str)), vs = [.ref f, .int (w : Nat)] ∧ w < 4 ∧ SqL K H f ts ∧ Prs H ts ps ∧ ps.length ≤ 400 ∧ (∀ q ∈ ps, Gd q) ∧
  ∀ (l : Addr) (H' : Hp) (us : List V), H l = none → Same H H' → H' l = some (.lst us) → Prs H' us (settledL w ps) → Q (.ref l) H'
section
variable {P : Program} {w : World} {K : Fg} {mg : Str → Option Value} {base : Heap} {fd : Nat → FuncData}
theorem ok_stl {f fA : Addr} {fd fdA : FuncData} (F : FnP K "_law_settled" "_law_settled" s_stl f fd) (FA : FnP K "_law_answer" "_law_answer" s_ans fA fdA) (gA : mg "_law_answer" = some (.ref fA)) (T : Txt K mg) : FnOk P w K mg base CX0 2 f fd ["_law_pairs_here", "_law_way"] (spStl K) := by
  have zlen : mg "len" = none := T.bl (by decide +kernel)
  have GA : FnOk P w K mg base CX0 1 fA fdA ["_law_way", "_law_name"] spAns := ok_ans FA T
  have bA : Binds K fdA ["_law_way", "_law_name"] [] := FA.bindsN fun _ _ _ _ _ _ us hl => match us, hl with | [_, _], _ => rfl
  refine F.ok sc_stl (fun vs H Q E h => ?_) (fun cdv A outer s H vs Q E hr h => ?_)
  · obtain ⟨f, w, ts, ps, rfl, _⟩ := h
    rfl
  · obtain ⟨f, way, ts, ps, rfl, hw, hf, prs, hn, gd, k⟩ := h
    refine ⟨_, PSs.nox (pss_cons (ps_set (i := 2) sc_stl.nd rfl (Or.inl rfl) (pe_lstN pa_nil))
    (pss_cons (ps_for PassesOwn.never rfl (pi_list (pv 0)) (pg_tup (by rfl) (pgs_cons (pg_name (i := 3) sc_stl.nd rfl (Or.inl rfl)) (pgs_cons (pg_name (i := 4) sc_stl.nd rfl (Or.inl rfl)) pgs_nil)))
    (pss_cons (ps_set (i := 5) sc_stl.nd rfl (Or.inl rfl) (pe_callB call_len (by rfl) zlen (by decide +kernel) (pa_cons (pv 2) pa_nil)))
    (pss_mid (ps_while PassesOwn.never (PW.pt (pw_and (pt_cmpR op_gt (pv 5) pe_int (nomark _)) (pw_and (pt_cmpR op_eq (pe_ix (ixt K) (pe_ix (ixl K) (pv 2) (pe_op op_sub (pv 5) pe_int) (fun _ _ => rfl)) pe_int (fun _ _ => rfl)) (pv 3) (nomark _)) (pw_and1 (pt_cmpR op_ltA (pe_call (E := E0) GA (hr.mono (by decide)) rfl gA FA.kp bA .nil pass0 (pa_cons (pv 1) (pa_cons (pv 4) pa_nil))) (pe_call (E := E0) GA (hr.mono (by decide)) rfl gA FA.kp bA .nil pass0 (pa_cons (pv 1) (pa_cons (pe_ix (ixt K) (pe_ix (ixl K) (pv 2) (pe_op op_sub (pv 5) pe_int) (fun _ _ => rfl)) pe_int (fun _ _ => rfl)) pa_nil))) (nomark _)))))) (pss_one (ps_set (i := 5) sc_stl.nd rfl (Or.inl rfl) (pe_op op_sub (pv 5) pe_int))))
    (pss_one (ps_set (i := 2) sc_stl.nd rfl (Or.inl rfl) (pe_op op_catN (pe_op op_catN (pe_slice (slK K) (pv 2) po_none (po_some (pv 5))) (pe_lstN (pa_cons (pe_tupN (pa_cons (pv 3) (pa_cons (pv 4) pa_nil))) pa_nil))) (pe_slice (slK K) (pv 2) (po_some (pv 5)) po_none)))))))
    (pss_one (ps_ret (pv 2))))), ?_⟩
    have ll : ts.length = ps.length := Paired.length prs
    refine ⟨sz1000 (by show 0 ≤ 1000; decide), fun D H1 f1 m1 s1 g1 => ?_⟩
    dsimp only [gName]
    refine ⟨_, rfl, f, rfl, ⟨ts, s1.seq hf⟩, for_list (K := K) (a := f) (xs := ts) (fun i σ H' => ∃ (v3 v4 v5 : Option V) (l : Addr) (us : List V), σ = [some (.ref f), some (.int (way : Nat)), some (.ref l), v3, v4, v5] ∧ Same H H' ∧ H l = none ∧ H' l = some (.lst us) ∧ Prs H' us (settledL way (ps.take i))) ⟨none, none, none, D, [], rfl, s1, f1, g1, .nil⟩ ?_ ?_ ?_⟩
    · rintro i σ H' _ ⟨_, _, _, _, _, _, s', _⟩
      exact s'.seq hf
    · rintro i x σ H2 hx ⟨v3, v4, v5, l, us, rfl, s2, fl, gl, pu⟩
      obtain ⟨t, q, rfl, eq, ht⟩ := prs_at prs hx
      have tp : ps.take (i + 1) = ps.take i ++ [q] := by rw [List.take_add_one, eq]; rfl
      refine ⟨t, _, rfl, SqT.of (s2 _ _ ht), rfl, ?_⟩
      refine ⟨_, _, rfl, _, _, rfl, rfl, ?_⟩
      refine ⟨_, rfl, .ref l, us.length, rfl, .inl ⟨us, SqL.of gl, rfl⟩, ?_⟩
      have lu : us.length = (settledL way (ps.take i)).length := Paired.length pu
      have l4 : us.length ≤ 400 := by
        rw [lu, settledL_length, List.length_take]
        omega
      have gq := gd q (List.mem_of_getElem? eq)
      refine ⟨fun σ' H' => ∃ n : Nat, n ≤ us.length ∧ σ' = [some (.ref f), some (.int (way : Nat)), some (.ref l), some (.int q.1), some (.str q.2), some (.int (n : Nat))] ∧ Same H2 H' ∧ placeN way q (settledL way (ps.take i)) us.length = n, ?_, ?_⟩
      · refine ⟨fun m σ' H' => m ≤ us.length ∧ σ' = [some (.ref f), some (.int (way : Nat)), some (.ref l), some (.int q.1), some (.str q.2), some (.int (m : Nat))] ∧ Same H2 H' ∧ placeN way q (settledL way (ps.take i)) us.length = placeN way q (settledL way (ps.take i)) m, ⟨us.length, Nat.le_refl _, rfl, Same.refl _, rfl⟩, ?_⟩
        rintro m σ' H3 ⟨hnl, rfl, s3, pl⟩
        have gl3 := s3 _ _ gl
        have pu3 : Prs H3 us (settledL way (ps.take i)) := pu.keep fun t xs z => s3 _ _ z
        refine ⟨_, rfl, _, _, rfl, rfl, _, rfl, ?_⟩
        match m, hnl, pl with
        | 0, hnl, pl => exact iteFe (by rfl) (iteF ⟨0, hnl, rfl, s3, pl⟩)
        | m + 1, hnl, pl =>
          refine iteTe (decide_eq_true (by omega)) ?_
          have hm : m < us.length := hnl
          obtain ⟨x, ex⟩ : ∃ x, (settledL way (ps.take i))[m]? = some x := ⟨_, List.getElem?_eq_getElem (by omega)⟩
          have eu : us[m]? = some us[m] := List.getElem?_eq_getElem hm
          obtain ⟨t', x', e1, e2, ht'⟩ := prs_at pu3 eu
          rw [ex] at e2
          cases e2
          rw [e1] at eu
          have gx := gd x (List.mem_of_mem_take (mem_settledL (List.mem_of_getElem? ex)))
          have hat : atI us (((m + 1 : Nat) : Int) - 1) = some (.ref t') := by
            rw [show (((m + 1 : Nat) : Int) - 1) = ((m : Nat) : Int) by omega]
            exact atI_nat eu
          have pst : placeN way q (settledL way (ps.take i)) (m + 1) = if stepB way q x then placeN way q (settledL way (ps.take i)) m else m + 1 := by
            rw [placeN, ex]
          refine ⟨_, rfl, _, rfl, _, _, rfl, rfl, l, us, _, .ref t', rfl, rfl, SqL.of gl3, hat, t', _, 0, .int x.1, rfl, rfl, SqT.of ht', rfl, _, rfl, rfl, _, rfl, ?_⟩
          by_cases hr : x.1 = q.1
          · refine iteTe (decide_eq_true (by rw [hr])) ?_
            refine ⟨_, rfl, _, rfl, way, q.2, rfl, hw, Nat.le_trans gq.2.2 (by decide), fun Ha sa => ?_⟩
            refine ⟨_, rfl, _, rfl, _, rfl, _, _, rfl, rfl, l, us, _, .ref t', rfl, rfl, SqL.of (sa _ _ gl3), hat, t', _, 1, .str x.2, rfl, rfl, SqT.of (sa _ _ ht'), rfl, way, x.2, rfl, hw, Nat.le_trans gx.2.2 (by decide), fun Hb sb => ?_⟩
            refine ⟨ans_two way q.2 x.2, _, rfl, ?_⟩
            have s5 := s3.trans (sa.trans sb)
            by_cases hl : ltV (ansV way q.2) (ansV way x.2) = true
            · refine iteTe hl ?_
              refine ⟨fun σ' H' => m ≤ us.length ∧ σ' = [some (.ref f), some (.int (way : Nat)), some (.ref l), some (.int q.1), some (.str q.2), some (.int (m : Nat))] ∧ Same H2 H' ∧ placeN way q (settledL way (ps.take i)) us.length = placeN way q (settledL way (ps.take i)) m, fun σ' H' z => ⟨m, Nat.lt_succ_self m, z⟩, ?_⟩
              refine ⟨_, rfl, _, _, rfl, rfl, by omega, ?_, s5, ?_⟩
              · have e1' : (((m + 1 : Nat) : Int) - 1) = ((m : Nat) : Int) := by omega
                show [some (V.ref f), some (.int (way : Nat)), some (.ref l), some (.int q.1), some (.str q.2), some (.int (((m + 1 : Nat) : Int) - 1))] = _
                rw [e1']
              · rw [pl, pst, if_pos (by unfold stepB; rw [hl, decide_eq_true hr]; rfl)]
            · refine iteFe (by simpa using hl) ?_
              exact ⟨m + 1, hnl, rfl, s5, by rw [pl, pst, if_neg (by unfold stepB; intro z; exact hl (Bool.and_eq_true_iff.mp z).2)]⟩
          · refine iteFe (decide_eq_false fun z => hr (V.int.inj z)) ?_
            exact iteF ⟨m + 1, hnl, rfl, s3, by rw [pl, pst, if_neg (by unfold stepB; intro z; exact hr (of_decide_eq_true (Bool.and_eq_true_iff.mp z).1))]⟩
      · rintro σ3 H3 ⟨n, hnl, rfl, s3, pl⟩
        have gl3 := s3 _ _ gl
        have pu3 : Prs H3 us (settledL way (ps.take i)) := pu.keep fun t xs z => s3 _ _ z
        refine ⟨_, rfl, _, rfl, _, rfl, l, us, rfl, SqL.of gl3, fun p4 H4 f4 s4 g4 => ?_⟩
        refine ⟨_, rfl, _, rfl, sz1000 (by show 2 ≤ 1000; decide), fun t5 H5 f5 s5 g5 => ⟨sz1000 (by show 1 ≤ 1000; decide), fun e6 H6 f6 m6 s6 g6 => ?_⟩⟩
        rw [cutTake] at g4
        refine ⟨p4, e6, _, _, rfl, rfl, s6 _ _ (s5 _ _ g4), g6, sz1000 (by rw [List.length_take]; show _ + 1 ≤ 1000; omega), fun p7 H7 f7 m7 s7 g7 => ?_⟩
        have S7 := s4.trans (s5.trans (s6.trans s7))
        refine ⟨_, rfl, _, rfl, _, rfl, l, us, rfl, SqL.of (S7 _ _ gl3), fun p8 H8 f8 s8 g8 => ?_⟩
        rw [cutDrop] at g8
        refine ⟨p7, p8, _, _, rfl, rfl, s8 _ _ g7, g8, sz1000 (by rw [List.length_append, List.length_take, List.length_drop]; show _ + 1 + _ ≤ 1000; omega), fun p9 H9 f9 m9 s9 g9 => ?_⟩
        have S8 := s2.trans (s3.trans (S7.trans s8))
        have S9 := S8.trans s9
        have K9 : Prs H9 us (settledL way (ps.take i)) := pu3.keep fun t xs z => s9 _ _ (s8 _ _ (S7 _ _ z))
        refine ⟨_, _, _, p9, _, rfl, S9, S8.free f9, g9, ?_⟩
        have ht5 : H9 t5 = some (.tup [.int q.1, .str q.2]) := s9 _ _ (s8 _ _ (s7 _ _ (s6 _ _ g5)))
        rw [tp, settledL_snoc]
        unfold putP
        rw [← lu, pl, List.append_assoc]
        exact paired_ap (.cons ⟨t5, rfl, ht5⟩ (paired_dp n K9)) (paired_tk n K9)
    · rintro σ H2 ⟨v3, v4, v5, l, us, rfl, s2, fl, gl, pu⟩
      rw [List.take_of_length_le (by omega)] at pu
      exact ⟨_, rfl, k l H2 us fl s2 gl pu⟩
end
end K09
/-! Tw: lambdas with a parameter and captured names, as values that are handed on: the heap at hand as the base of what is called. -/
namespace Tw
open PySem PySem.Spec PyProof.Rows L2 He LamX
/-- the heap at hand without what is tracked and without the frames -/
def baseN (h : Heap) (H : Hp) (fs : List Addr) : Heap := PySem.W.hideAll (hidT h H) fs
theorem baseN_get {h : Heap} {H : Hp} {fs : List Addr} {b : Addr} {o : Obj} (e : h.get? b = some o) (n : H b = none) (f : b ∉ fs) : (baseN h H fs).get? b = some o := PySem.W.hideAll_get fs (hidT_get e n) f
theorem of_baseN {h : Heap} {H : Hp} {fs : List Addr} {b : Addr} {o : Obj} (e : (baseN h H fs).get? b = some o) : h.get? b = some o ∧ H b = none := of_hidT (PySem.W.of_hideAll fs e)
theorem baseN_frame {h : Heap} {H : Hp} {fs : List Addr} {b : Addr} (hb : b ∈ fs) : (baseN h H fs).get? b = none := PySem.W.hideAll_none fs hb
theorem frames_base {h base base' : Heap} : ∀ {l : List Env}, (∀ b ∈ frs l, base'.get? b = none) → h.FunFrames base l → h.FunFrames base' l
  | [], _, _ => trivial
  | env :: rest, hb, ⟨k, ⟨L, o, e1, e2, e3, e4⟩, r⟩ => by
    have hm : ∀ b ∈ frs rest, b ∈ frs (env :: rest) := fun b hb => by
      unfold frs at hb ⊢
      rw [List.filterMap_cons]
      split
      · exact hb
      · exact List.mem_cons_of_mem _ hb
    refine ⟨k, ⟨L, o, e1, hb L ?_, e3, e4⟩, frames_base (fun b q => hb b (hm b q)) r⟩
    unfold frs
    rw [List.filterMap_cons, e1]
    exact List.mem_cons_self
section
variable {X : Cx} {pins : List (Addr × Obj)} {σ : L2.St} {H : Hp} {s : Shared}
/-- what is called may take the heap at hand as its base -/
theorem env0_new (I : Inv X pins σ H s) : Env0 X.prog X.w X.K X.mg (baseN s.heap H (frs X.stack)) X.A X.stack s H := by
  have e0 := I.env0
  have kb : ∀ b o, X.base.get? b = some o → (baseN s.heap H (frs X.stack)).get? b = some o := fun b o e => by
    obtain ⟨h1, h2⟩ := e0.bs b o e
    refine baseN_get h1 h2 fun hb => ?_
    have := (e0.funs.mem hb).1
    rw [e] at this
    cases this
  obtain ⟨mb, hb1, hb2⟩ := e0.mod.blt
  exact ⟨e0.frames, ⟨e0.mod.kin.keeps kb, e0.mod.glob.keeps kb, ⟨mb, hb1.keeps kb, hb2⟩, e0.mod.nolimit.keeps kb⟩, fun b o e => of_baseN e, Nat.le_of_eq ((PySem.W.hideAll_size _ _).trans (hidT_size _ _)), frames_base (fun b hb => baseN_frame hb) e0.funs, e0.frf, e0.hok, e0.bare⟩
/-- a def called by a promise over any base -/
theorem run_fnB {CX : CXT} {k : Nat} {f : Addr} {sp : Sp} {E : XK} {Q : VK} {us : List Value} {vs : List V} (F : FnR X.prog X.w X.K X.mg (baseN s.heap H (frs X.stack)) CX k f sp) (hr : Room k X.A) (hx : Passes CX X E) (I : Inv X pins σ H s) (r : Vals vs us) (h : sp vs H Q E) :
    codeAny (model X.prog X.w) X.A (.call (.ref f) ⟨us, []⟩) (fun r s' => match r with | .ok (.ret v) => EP X pins σ Q v s' | .ok _ => False | .error e => X.xe e s') s := by
  refine codeAny_mono (F X.A X.stack s H us vs Q E hr (env0_new I) r h) fun r s' hq => ?_
  match r, hq with
  | .error e, hq => exact hx pins σ H s e s' I hq
  | .ok (.ret u), hq => exact I.after hq
end
/-! ### the lambda's body -/
/-- one parameter, no other name of its own: captured ones and globals -/
structure LamP (sc scope : Scope) (x : Str) : Prop where
  kind : scope.kind = .function
  co : scope.isCoroutine = false
  gen : scope.isGenerator = false
  par : scope.names.lookup x = some .local
  own : ∀ y ∈ scope.names, y.2 ≠ .cell
  free : ∀ y ∈ scope.names, y.2 = .free → sc.names.lookup y.1 = some .cell ∨ sc.names.lookup y.1 = some .free
def lamPB (sc scope : Scope) (x : Str) : Bool :=
  decide (scope.kind = .function) && (!scope.isCoroutine && (!scope.isGenerator && (decide (scope.names.lookup x = some .local) && scope.names.all fun y => !decide (y.2 = .cell) && (!decide (y.2 = .free) || (decide (sc.names.lookup y.1 = some .cell) || decide (sc.names.lookup y.1 = some .free))))))
theorem lamP_by {sc scope : Scope} {x : Str} (h : lamPB sc scope x = true) : LamP sc scope x := by
  unfold lamPB at h
  obtain ⟨h1, h⟩ := ba h
  obtain ⟨h2, h⟩ := ba h
  obtain ⟨h3, h⟩ := ba h
  obtain ⟨h4, h5⟩ := ba h
  refine ⟨of_decide_eq_true h1, by simpa using h2, by simpa using h3, of_decide_eq_true h4, fun y hy => ?_, fun y hy e => ?_⟩
  · have := (ba (List.all_eq_true.mp h5 y hy)).1
    simpa using this
  · have := (ba (List.all_eq_true.mp h5 y hy)).2
    rw [decide_eq_true e, Bool.not_true, Bool.false_or, Bool.or_eq_true] at this
    exact this.imp of_decide_eq_true of_decide_eq_true
/-- the context of the lambda's body -/
def lamC (X : Cx) (base : Heap) (N : List Str) (A : Around) (outer : List Env) (s : Shared) (H : Hp) (E : XK) (scope : Scope) (f c' : Addr) : Cx where
  prog := X.prog
  w := X.w
  K := X.K
  mg := X.mg
  base := base
  A := A.deeper (lamEnv X scope s.heap.objs.size f c')
  N := N
  s_0 := s
  H_0 := H
  env := lamEnv X scope s.heap.objs.size f c'
  outer := outer
  stack := lamEnv X scope s.heap.objs.size f c' :: outer
  ex := []
  fn := fun _ => false
  calm := true
  pn := []
  xe := fun e s' => wpAny (model X.prog X.w) (A.deeper (lamEnv X scope s.heap.objs.size f c')) (leaving (lamEnv X scope s.heap.objs.size f c') e) (fun _ s'' => L2.CX X.prog X.w outer H s E e s'') (fun e' s'' => L2.CX X.prog X.w outer H s E e' s'') s'
/-- what the lambda knows of its maker's names -/
def capS (σ : L2.St) (caps : List Nat) : L2.St := caps.map fun i => (σ[i]?).getD none
section
variable {X : Cx} {pins : List (Addr × Obj)} {σ : L2.St} {H HZ : Hp} {s s1 : Shared}
theorem lam_begin {A : Around} {outer : List Env} {E : XK} {scope : Scope} {f c' : Addr} {h₁ : Heap} {tk : Nat} {x : Str} {cs : List Str} {caps : List Nat} {u : V} {uv : Value} (I : Inv X pins σ H s) (hfn : ∀ y, X.fn y = true) (L : LamP X.env.scope scope x)
    (hcs : ∀ (j : Nat) (y : Str) (i : Nat), cs[j]? = some y → caps[j]? = some i → X.N[i]? = some y) (hl : cs.length = caps.length) (hfr : ∀ y ∈ cs, scope.names.lookup y = some .free)
    (e0 : Env0 X.prog X.w X.K X.mg (baseN s.heap H (frs X.stack)) A outer s1 HZ) (hd : A.handled = none) (ru : RelV u uv)
    (hns : h₁.Ns s1.heap.objs.size fun y => ([(x, uv)] : List (Str × Value)).reverse.lookup y) (kp : ∀ b o, s1.heap.get? b = some o → h₁.get? b = some o) :
    Inv (lamC X (baseN s.heap H (frs X.stack)) (x :: cs) A outer s1 HZ E scope f c') [] (some u :: capS σ caps) HZ { s1 with heap := h₁, toks := tk } := by
  have hfree : ∀ y ∈ scope.names, y.2 = .free → ∃ c, X.env.cells.lookup y.1 = some c := fun y hy e => by
    rcases L.free y hy e with k | k
    · exact I.ok.has _ (.inl k)
    · exact I.ok.has _ (.inr k)
  have cm : ∀ {y c}, (cloFrom X.env.cells scope.names []).lookup y = some c → X.env.cells.lookup y = some c := fun {y c} e => by
    rcases cloFrom_mem (PySem.mem_of_lookup e) with hm | ⟨h1, h2⟩
    · cases hm
    · obtain ⟨c1, hc⟩ := hfree _ h1 rfl
      have hc : X.env.cells.lookup y = some c1 := hc
      have e2 : c = c1 := by
        rw [h2, hc] <;> rfl
      rw [e2]
      exact hc
  have look : ∀ {y}, scope.names.lookup y = some .free → ∃ c, (cloFrom X.env.cells scope.names []).lookup y = some c := fun {y} hl => by
    have hy : (y, NameKind.free) ∈ scope.names := PySem.mem_of_lookup hl
    exact mem_lookup (cloFrom_has (cells := X.env.cells) (acc := []) hy)
  -- the cells stand as they stood
  have cellB : ∀ {y : Str} {c : Addr} {v : Option Value}, X.env.cells.lookup y = some c → s.heap.IsCell c v → h₁.IsCell c v ∧ HZ c = none := fun {y c v} ey ⟨o, ho, hdo⟩ => by
    have nf : c ∉ frs X.stack := fun hb => by
      have ge := I.ok.cab y c (hfn y) ey
      rcases List.mem_cons.mp (I.stkSub _ hb) with z | z
      · exact I.cne y c ey z
      · obtain ⟨_, o', ho', _⟩ := I.ok.funs.mem z
        exact Nat.lt_irrefl _ (Nat.lt_of_lt_of_le (Heap.lt_size ho') ge)
    obtain ⟨q1, q2⟩ := e0.bs c o (baseN_get ho (I.freeC y c ey) nf)
    exact ⟨⟨o, kp _ _ q1, hdo⟩, q2⟩
  have noA : ∀ b : Addr, b ∉ (lamC X (baseN s.heap H (frs X.stack)) (x :: cs) A outer s1 HZ E scope f c').ex := fun b z => absurd (show b ∈ ([] : List Addr) from z) (by simp)
  refine ⟨⟨e0.mod, L.kind, rfl, rfl, Nat.le_refl _, fun y z c e1 e2 => I.ok.inj y z c (cm e1) (cm e2), fun y hy => ?_, fun y c z _ => ?_, fun _ => hd, Around.frames_deeper e0.frames, .inr ⟨rfl, rfl⟩, fun b z => absurd z (noA b), e0.bs, e0.bsz, fun b _ _ => noA b,
      fun b z => absurd z (noA b), e0.funs, e0.frf⟩,
    rfl, e0.bare, Un.kept kp, ⟨_, hns, fun i y v e1 e2 e3 => ?_⟩, fun y c e => ?_, e0.hok.fresh (Nat.le_refl _), fun y c e => ?_, fun q hq => absurd (show q ∈ ([] : List (Addr × Obj)) ++ [] from hq) (by simp), e0.hok.kept kp, ?_⟩
  · have hy : scope.names.lookup y = some .cell ∨ scope.names.lookup y = some .free := hy
    rcases hy with hy | hy
    · exact absurd rfl (L.own _ (PySem.mem_of_lookup hy))
    · exact look hy
  · have z : false = true := z
    cases z
  · have e1 : (x :: cs)[i]? = some y := e1
    have e2 : (some u :: capS σ caps)[i]? = some (some v) := e2
    cases i with
    | zero =>
      cases e1
      cases e2
      exact ⟨uv, ru, .inl ⟨L.par, by show List.lookup x [(x, uv)] = some uv; simp⟩⟩
    | succ j =>
      have e1 : cs[j]? = some y := e1
      have e2 : (capS σ caps)[j]? = some (some v) := e2
      have hj : j < caps.length := by
        rw [← hl]
        exact (List.getElem?_eq_some_iff.mp e1).1
      have ec : caps[j]? = some caps[j] := List.getElem?_eq_getElem hj
      generalize caps[j] = i at ec
      have hN := hcs j y i e1 ec
      have e3 : σ[i]? = some (some v) := by
        unfold capS at e2
        rw [List.getElem?_map, ec] at e2
        have e2 : (σ[i]?).getD none = some v := Option.some.inj e2
        cases q : σ[i]? with
        | none =>
          rw [q] at e2
          cases e2
        | some o =>
          rw [q] at e2
          have e2 : o = some v := e2
          rw [e2]
      have kf := hfr y (List.mem_of_getElem? e1)
      obtain ⟨m, hn, hlo⟩ := I.loc
      have hvis : Vis X.env.scope y := (L.free _ (PySem.mem_of_lookup kf) rfl).elim (fun k => .inr (.inl k)) (fun k => .inr (.inr k))
      obtain ⟨w', r, q⟩ := hlo i y v hN e3 hvis
      obtain ⟨c2, h2⟩ := look kf
      refine ⟨w', r, .inr ⟨.inr kf, c2, h2, ?_⟩⟩
      have c1 := cm h2
      rcases q with ⟨k', _⟩ | ⟨_, c3, e', z⟩
      · have k' : X.env.scope.names.lookup y = some .local := k'
        rcases L.free _ (PySem.mem_of_lookup kf) rfl with k2 | k2 <;> rw [show X.env.scope.names.lookup y = _ from k2] at k' <;> cases k'
      · rw [c1] at e'
        cases e'
        exact (cellB c1 z).1
  · obtain ⟨w', z⟩ := I.cell y c (cm e)
    exact ⟨w', (cellB (cm e) z).1⟩
  · obtain ⟨v, z⟩ := I.cell y c (cm e)
    exact (cellB (cm e) z).2
  · show (some u :: capS σ caps).length = (x :: cs).length
    unfold capS
    rw [List.length_cons, List.length_cons, List.length_map, hl]
/-- what a lambda promises -/
def spLam (tb : XK → TE) (σc : L2.St) (c' : Addr) (q : Str) : Sp := fun vs HZ Q E => ∃ u, vs = [u] ∧ HZ c' = some (CodeO c' q) ∧ tb E (some u :: σc) HZ Q
theorem lam_fnR {f c' : Addr} {pm ctv : Value} {params : Arguments} {body : Expr} {scope : Scope} {k : Nat} {x : Str} {cs : List Str} {caps : List Nat} {tb : XK → TE} (I : Inv X pins σ H s) (hfn : ∀ y, X.fn y = true) (L : LamP X.env.scope scope x)
    (hcs : ∀ (j : Nat) (y : Str) (i : Nat), cs[j]? = some y → caps[j]? = some i → X.N[i]? = some y) (hl : cs.length = caps.length) (hfr : ∀ y ∈ cs, scope.names.lookup y = some .free)
    (hf : s.heap.get? f = some (PySem.W.kla_obj "<lambda>" (X.env.qual ++ "<lambda>") params body scope (cloFrom X.env.cells scope.names []) pm c' ctv)) (hf0 : H f = none) (hf1 : f ∉ frs X.stack)
    (hbind : ∀ u : Value, bindArgs (PySem.W.kla_fn "<lambda>" (X.env.qual ++ "<lambda>") params body scope (cloFrom X.env.cells scope.names []) pm (.ref c') ctv) ⟨[u], []⟩ = pure [(x, u)])
    (hbody : ∀ (A : Around) (outer : List Env) (s1 : Shared) (H1 : Hp) (E : XK), Room k (A.deeper (lamEnv X scope s1.heap.objs.size f c')) → PE (lamC X (baseN s.heap H (frs X.stack)) (x :: cs) A outer s1 H1 E scope f c') body (tb E)) :
    FnR X.prog X.w X.K X.mg (baseN s.heap H (frs X.stack)) (L2.CX X.prog X.w) (k + 1) f (spLam tb (capS σ caps) c' (X.env.qual ++ "<lambda>")) := by
  intro A outer s1 HZ us vs Q E hr e0 r hsp
  obtain ⟨u, rfl, hc, ht⟩ := hsp
  obtain ⟨uv, rfl, ru⟩ := vals1 r
  have of1 := (e0.bs f _ (baseN_get hf hf0 hf1)).1
  obtain ⟨⟨oc, vs, t, hoc, hdc, hvc⟩, _, _⟩ := e0.hok c' _ hc
  have lim : s1.heap.NoLimit := e0.mod.nolimit.keeps fun b o e => (e0.bs b o e).1
  refine PySem.W.kla_callFunE hr.depth of1 rfl L.co L.gen rfl ⟨c', oc, vs, t, rfl, hoc, hdc, hvc⟩ ?_
  rw [hbind]
  refine wpAny_pure (wpAny_newFunctionEnv (fun y hy => L.own y hy) (fun y hy => ?_) (fun h₁ hns hsb => ⟨lim.fresh _ hsb, ?_⟩) L.kind)
  · rw [List.mem_singleton.mp hy]
    exact L.par
  show codeAny _ _ (.expr body (lamEnv X scope s1.heap.objs.size f c')) _ _
  have kp : ∀ b o, s1.heap.get? b = some o → h₁.get? b = some o := fun b o e => hsb.extBut b o (Nat.ne_of_lt (Heap.lt_size e)) (Heap.get?_push_of_some _ e)
  have J : Inv (lamC X (baseN s.heap H (frs X.stack)) (x :: cs) A outer s1 HZ E scope f c') [] (some u :: capS σ caps) HZ { s1 with heap := h₁, toks := s1.toks + ([(x, uv)] : List (Str × Value)).length } :=
    lam_begin I hfn L hcs hl hfr e0 hr.hd ru hns kp
  refine PySem.W.kla_codeExpr (wpAny_mono ((hbody _ _ s1 HZ E (hr.deeper _)).run [] _ _ HZ Q J ht) (fun v s' hq => ?_) fun e s' hq => hq)
  obtain ⟨w', H', J', rv, q⟩ := hq
  exact ⟨w', H', J'.os, J'.bare, J'.base, J'.hok, rv, q⟩
end
/-! ### calls -/
section
variable {X : Cx} {CX : CXT} {k i : Nat} {f : Addr} {sp : Sp} {E : XK} {x : Str} {p pos : Pos} {e : Expr} {es : List Expr} {t : TA}
/-- x(e, ..), x a local name that holds a function of the base -/
theorem pe_callF (hN : X.N[i]? = some x) (hv : Vis X.env.scope x) (hf : PySem.W.FnAt f X.base) (F : FnR X.prog X.w X.K X.mg X.base CX k f sp) (hr : Room k X.A) (hx : Passes CX X E) (ha : PA X (e :: es) t)
    (hd : (x == ("__debug__" : Str)) = false := by decide) (hcd : (x == ("__classdict__" : Str)) = false := by decide)
    (he : starEach (e :: es) X.env = (false, eval e X.env) :: starEach es X.env := by rfl) (hpl : (backTo pos (starEach es X.env)).any (·.1) = false := by rfl) :
    PE X (.Call (.Name x p) (e :: es) [] pos) (fun σ H Q => σ[i]? = some (some (.ref f)) ∧ t σ H fun vs H1 => sp vs H1 Q E) := by
  have at_ : ∀ {pins σ H s}, Inv X pins σ H s → PySem.W.FnAt f s.heap := fun I => by
    obtain ⟨oc, od, fd, sl, h⟩ := hf
    exact ⟨oc, od, fd, sl, I.bk _ _ h⟩
  refine ⟨fun pins s σ H Q I h => wpAny_Call_Name_kw (thn ((pe_var (pos := p) (i := i) hN hv hd hcd).run pins s σ H (fun v H1 => v = .ref f ∧ H1 = H) I ⟨.ref f, h.1, rfl, rfl⟩) fun u s1 ⟨v, H1, I1, r1, ev, eH⟩ => ?_)⟩
  subst ev eH
  cases r1
  refine PySem.W.callWith_F (first := []) (at_ I1) (thn (ha.run pos pins s1 σ _ _ I1 h.2) fun us s2 ⟨vs, H2, I2, r, q⟩ => ⟨at_ I2, ?_⟩) he hpl
  exact wpAny_call (run_fnR F hr hx I2 r q)
end
section
variable {X : Cx} {CX : CXT} {kc k : Nat} {C g c P : Addr} {spB : Heap → Sp} {E : L2.St → XK} {fe : Expr} {tf : TE} {T : List (Addr × Str)} {params : Arguments} {body : Expr} {scope : Scope} {tb : XK → TE} {lpos pos : Pos} {x : Str} {cs : List Str} {caps : List Nat}
def tCallOL (P : Program) (w : World) (K : Fg) (mg : Str → Option Value) (C : Addr) (k : Nat) (T : List (Addr × Str)) (q : Str) (tb : XK → TE) (caps : List Nat) (spB : Heap → Sp) (E : L2.St → XK) (tf : TE) : TE := fun σ H Q => tf σ H fun y H0 => ∃ a, y = .ref a ∧ Tabs T H0 ∧ ∀ (f c' : Addr) (H1 : Hp) (base' : Heap), ExtN H0 H1 → Tabs T H1 → H1 c' = some (CodeO c' q) → PySem.W.FnAt f base' →
  FnR P w K mg base' (L2.CX P w) (k + 1) f (spLam tb (capS σ caps) c' q) → (∃ dx fs, H1 a = some (.ins C dx fs)) ∧ spB base' [.ref a, .ref f] H1 Q (E σ)
/-- o(lambda x: ..), o an instance of C whose __call__ is promised over any base -/
theorem pe_callOL {Pr : Program} {wo : World} {K : Fg} {mg : Str → Option Value} {qn : Str} (hf : PE X fe tf) (co : StX.CallO X.K C g) (F : ∀ base' : Heap, FnR X.prog X.w X.K X.mg base' CX kc g (spB base')) (hr : Room kc X.A) (hx : ∀ σ, PassesAt CX X σ (E σ))
    (TB : TabB X.base X.mg c P) (hcode : X.env.code = .ref c) (hmT : (P, X.env.qual ++ "<lambda>") ∈ T) (hu : ∀ p ∈ T, p.1 = P → p.2 = X.env.qual ++ "<lambda>") (hdef : defaultsOf params X.env = ([], []))
    (hfn : ∀ y, X.fn y = true) (L : LamP X.env.scope scope x) (hcs : ∀ (j : Nat) (y : Str) (i : Nat), cs[j]? = some y → caps[j]? = some i → X.N[i]? = some y) (hl : cs.length = caps.length) (hfr : ∀ y ∈ cs, scope.names.lookup y = some .free)
    (hbind : ∀ (u : Value) (q : Str) (cl : List (Str × Addr)) (pm cv ctv : Value), bindArgs (PySem.W.kla_fn "<lambda>" q params body scope cl pm cv ctv) ⟨[u], []⟩ = pure [(x, u)])
    (hbody : ∀ (base : Heap) (A : Around) (outer : List Env) (s1 : Shared) (H1 : Hp) (E : XK) (f c' : Addr), Room k (A.deeper (lamEnv X scope s1.heap.objs.size f c')) → PE (lamC X base (x :: cs) A outer s1 H1 E scope f c') body (tb E))
    (ht : eval (.Call fe [.Lambda params body scope lpos] [] pos) X.env = (do callWith pos (← eval fe X.env) [] (backTo pos (starEach [.Lambda params body scope lpos] X.env)) (backToKw pos (keywordEach [] X.env))) := by rfl) (hP : X.prog = Pr := by rfl) (hW : X.w = wo := by rfl) (hK : X.K = K := by rfl) (hM : X.mg = mg := by rfl) (hQ : X.env.qual ++ "<lambda>" = qn := by rfl) :
    PE X (.Call fe [.Lambda params body scope lpos] [] pos) (tCallOL Pr wo K mg C k T qn tb caps spB E tf) := by
  subst hP hW hK hM hQ
  refine ⟨fun pins s σ H Q I h => ?_⟩
  refine Call_ (thn (hf.run pins s σ H _ I h) fun u s1 ⟨y, H1, I1, ry, a, ey, hT, q⟩ => ?_) ht
  subst ey
  obtain rfl : u = Value.ref a := ry
  have hfree : ∀ y ∈ scope.names, y.2 = .free → ∃ c, X.env.cells.lookup y.1 = some c := fun y hy e => by
    rcases L.free y hy e with k | k
    · exact I.ok.has _ (.inl k)
    · exact I.ok.has _ (.inr k)
  refine StX.callO_with (Calls.spliced_cons (lam_make2 I1 TB hcode hmT hu hT hdef hfree fun f c' pm ctv H2 s2 I2 eN T2 hf2 hf0 hf1 hco => Calls.spliced_nil ?_)) (by rfl) (by rfl)
  have hfa : PySem.W.FnAt f (baseN s2.heap H2 (frs X.stack)) := ⟨_, _, _, _, baseN_get hf2 hf0 hf1⟩
  have FL := lam_fnR I2 hfn L hcs hl hfr hf2 hf0 hf1 (fun u => hbind u _ _ _ _ _) (fun A outer s1 H1 E hr => hbody _ A outer s1 H1 E f c' hr)
  obtain ⟨hi, q2⟩ := q f c' H2 _ eN T2 hco hfa FL
  obtain ⟨ox, od, J, hd⟩ := StX.insC_at I2 (.inr hi)
  refine ⟨⟨C, ox, od, J, hd⟩, wpAny_call (PySem.W.kco_code I2.kIn J hd co.at_ co.fn co.fi ?_)⟩
  refine codeAny_mono (F _ X.A X.stack s2 H2 [.ref a, .ref f] [.ref a, .ref f] Q (E σ) hr (env0_new I2) (.cons rfl (.cons rfl .nil)) q2) fun r s' hq => ?_
  match r, hq with
  | .error e, hq => exact hx σ pins H2 s2 e s' I2 hq
  | .ok (.ret u), hq => exact I2.after hq
end
end Tw
/-! Tw: lambdas within lambdas: code objects with their tables, tables by names; a lambda of no or one parameter as a promise over the heap at hand. -/
namespace Tw
open PySem PySem.Spec PyProof.Rows L2 He LamX
/-- the code object at c bears the name q, its own table stands at P -/
def CodeN (c : Addr) (q : Str) (P : Addr) : HO := .ext fun h => PySem.W.CodeHd h c P ∧ h.CodeRec (.ref c) q
theorem codeN_ne {c P : Addr} {q : Str} (ps : Array Value) : CodeN c q P ≠ .tbl ps := fun z => by
  unfold CodeN at z
  cases z
theorem head_at {h1 h2 : Heap} {c P : Addr} (x : PySem.W.CodeHd h1 c P) (st : ∀ o, h1.get? c = some o → h2.get? c = some o) : PySem.W.CodeHd h2 c P := by
  obtain ⟨o, vs, file, tf, flags, tg, inF, text, tt, e, r⟩ := x
  exact ⟨o, vs, file, tf, flags, tg, inF, text, tt, st _ e, r⟩
theorem rec_at {h1 h2 : Heap} {c : Addr} {q : Str} (x : h1.CodeRec (.ref c) q) (st : ∀ o, h1.get? c = some o → h2.get? c = some o) : h2.CodeRec (.ref c) q := by
  obtain ⟨c2, o, vs, t, e, g, r⟩ := x
  cases e
  exact ⟨c, o, vs, t, rfl, st _ g, r⟩
/-- what a table named q holds, where ν names the tables -/
def NuAt (host : Str → Option Str) (ν : Addr → Option Str) (H : Hp) (P : Addr) (q : Str) : Prop := ∃ ps : Array Value, H P = some (.tbl ps) ∧ TriplesOk ps.toList ∧
  ∀ (pos : Pos) (cv : Value), codeAmong pos ps.toList = some cv → ∃ c P', cv = .ref c ∧ H c = some (CodeN c q P') ∧ ∀ q2, host q = some q2 → ν P' = some q2
def Nu (host : Str → Option Str) (ν : Addr → Option Str) (H : Hp) : Prop := ∀ P q, ν P = some q → NuAt host ν H P q
/-- the tables of L stand, and what they lead to -/
def Tbn (host : Str → Option Str) (L : List (Addr × Str)) (H : Hp) : Prop := ∃ ν : Addr → Option Str, (∀ p ∈ L, ν p.1 = some p.2) ∧ Nu host ν H
theorem Nu.ext {host : Str → Option Str} {ν : Addr → Option Str} {H H' : Hp} (n : Nu host ν H) (e : ∀ b o, H b = some o → H' b = some o) : Nu host ν H' := fun P q hq => by
  obtain ⟨ps, h1, h2, h3⟩ := n P q hq
  refine ⟨ps, e _ _ h1, h2, fun pos cv hc => ?_⟩
  obtain ⟨c, P', e1, e2, e3⟩ := h3 pos cv hc
  exact ⟨c, P', e1, e _ _ e2, e3⟩
theorem Tbn.ext {host : Str → Option Str} {L : List (Addr × Str)} {H H' : Hp} (t : Tbn host L H) (e : ∀ b o, H b = some o → H' b = some o) : Tbn host L H' := by
  obtain ⟨ν, h1, h2⟩ := t
  exact ⟨ν, h1, h2.ext e⟩
theorem Tbn.less {host : Str → Option Str} {L L' : List (Addr × Str)} {H : Hp} (t : Tbn host L H) (s : ∀ p ∈ L', p ∈ L) : Tbn host L' H := by
  obtain ⟨ν, h1, h2⟩ := t
  exact ⟨ν, fun p hp => h1 p (s p hp), h2⟩
/-! ### the making -/
section
variable {M : Model} {A : Around} {E : Value → Shared → Prop} {s : Shared} {name qual : Str} {params : Arguments} {body : Expr} {scope : Scope} {env : Env} {c P : Addr} {ps : Array Value} {pos : Pos} {mg : Str → Option Value} {clos : List (Str × Addr)} {Q : Value → Shared → Prop}
theorem mk_new (hcl : closureFor scope env = pure clos) (ge : env.globals = mainGlobals) (gl : s.heap.Ns mainGlobals mg) (hcode : env.code = .ref c) (C : PySem.W.CodeHd s.heap c P)
    (hP : s.heap.get? P = some (PySem.W.tabObj ps)) (ht : TriplesOk ps.toList) (hnf : codeAmong pos ps.toList = none) (gP : mainGlobals ≠ P) (hb : s.heap.BuiltinsAt mg P)
    (h : ∀ (c' P' : Addr) (ctv : Value) (h' : Heap) (tk : Tok), Heap.ExtBut P s.heap h' → s.heap.objs.size ≤ c' → c' < h'.objs.size → s.heap.objs.size ≤ P' → h'.CodeRec (.ref c') qual → PySem.W.CodeHd h' c' P' →
      h'.get? P' = some (PySem.W.tabObj #[]) → h'.get? P = some (PySem.W.tabObj (ps ++ #[rawInt pos.line, rawInt pos.col, .ref c'])) →
      Q (.ref h'.objs.size) { s with heap := h'.push (PySem.W.kla_obj name qual params body scope clos ((mg "__name__").getD .none) c' ctv), toks := tk }) :
    wpAny M A (makeFunction name qual params (.expr body) scope env [] [] [] pos pos.line) Q E s := by
  obtain ⟨bm, ob, m1, m2, _, m3, m4, m5, m6, m7⟩ := hb
  rw [makeFunction_eq]
  simp only [List.zip_nil_right, List.filterMap_nil, List.isEmpty_nil, if_true, pure_bind]
  unfold makeTail
  rw [hcl, ge]
  refine wpAny_bind (wpAny_pure ?_)
  cases clos with
  | nil =>
    simp only [List.isEmpty_nil, if_true]
    refine wpAny_bind (wpAny_pure (wpAny_bind ?_))
    refine wpAny_functionCodeX hcode (C.code hP ht) (C.tab hP) hnf fun c' h' tk hx g1 g2 _ r1 t1 n1 => ?_
    obtain ⟨P', p1, p2, p3⟩ := n1
    refine wpAny_bind (wpAny_builtinsFor (gl.extBut hx gP) m1 m2 (hx _ _ m3 m4) m5 m6 m7 (wpAny_bind (wpAny_nsGet (gl.extBut hx gP) (wpAny_bind (wpAny_pure ?_)))))
    exact wpAny_newObj_type (h c' P' .none h' tk hx g1 g2 p1 r1 (PySem.W.CodeHd.of p2 p3) p3.2 t1.2) (by size_fits)
  | cons q r =>
    simp only [List.isEmpty_cons, Bool.false_eq_true, if_false]
    refine wpAny_bind (wpAny_newTextTuple (wpAny_bind ?_))
    have up : ∀ {oT : Obj} (b : Addr) (o : Obj), s.heap.get? b = some o → (s.heap.push oT).get? b = some o := fun b o e => Heap.get?_push_of_some _ e
    have C2 := fun oT : Obj => C.keeps (up (oT := oT))
    refine wpAny_functionCodeX hcode ((C2 _).code (up _ _ hP) ht) ((C2 _).tab (up _ _ hP)) hnf fun c' h' tk hx g1 g2 _ r1 t1 n1 => ?_
    obtain ⟨P', p1, p2, p3⟩ := n1
    have hx2 : Heap.ExtBut P s.heap h' := fun b o n e => hx b o n (up b o e)
    rw [Heap.size_push] at g1 p1
    refine wpAny_bind (wpAny_builtinsFor (gl.extBut hx2 gP) m1 m2 (hx2 _ _ m3 m4) m5 m6 m7 (wpAny_bind (wpAny_nsGet (gl.extBut hx2 gP) (wpAny_bind (wpAny_pure ?_)))))
    exact wpAny_newObj_type (h c' P' _ h' tk hx2 (by omega) g2 (by omega) r1 (PySem.W.CodeHd.of p2 p3) p3.2 t1.2) (by size_fits)
end
section
variable {X : Cx} {pins : List (Addr × Obj)} {σ : L2.St} {H : Hp} {s : Shared}
/-- a table is written, a code object and its empty table are new -/
theorem inv_table2 {P c P' : Addr} {q : Str} {ps more : Array Value} {h' : Heap} {t' : Nat} (I : Inv X pins σ H s) (hP : H P = some (.tbl ps)) (k : ∀ b o, b ≠ P → s.heap.get? b = some o → h'.get? b = some o)
    (hm : h'.get? P = some { cls := .none, data := .fields (ps ++ more) }) (hc : s.heap.objs.size ≤ c) (hp' : s.heap.objs.size ≤ P') (hd : PySem.W.CodeHd h' c P') (hr : h'.CodeRec (.ref c) q) (hn : h'.get? P' = some (PySem.W.tabObj #[])) :
    Inv X pins σ (upd (upd (upd H P (.tbl (ps ++ more))) c (CodeN c q P')) P' (.tbl #[])) { s with heap := h', toks := t' } := by
  have cP : c ≠ P' := by
    obtain ⟨_, _, _, _, _, _, _, _, _, _, _, _, _, _, _, _, _, _, z⟩ := hd
    exact z
  have nC : H c = none := I.hok.fresh hc
  have nQ : H P' = none := I.hok.fresh hp'
  have at_ : ∀ b, b ≠ P → b ≠ c → b ≠ P' → upd (upd (upd H P (.tbl (ps ++ more))) c (CodeN c q P')) P' (.tbl #[]) b = H b := fun b h1 h2 h3 => by rw [upd_ne h3, upd_ne h2, upd_ne h1]
  have atP : upd (upd (upd H P (.tbl (ps ++ more))) c (CodeN c q P')) P' (.tbl #[]) P = some (.tbl (ps ++ more)) := by
    rw [upd_ne (ne_of_none hP nQ), upd_ne (ne_of_none hP nC), upd_same]
  have atC : upd (upd (upd H P (.tbl (ps ++ more))) c (CodeN c q P')) P' (.tbl #[]) c = some (CodeN c q P') := by rw [upd_ne cP, upd_same]
  have nP : ∀ b u, H b = some u → (∀ xs, u ≠ .tbl xs) → b ≠ P := fun b u e n z => by
    rw [z, hP] at e
    exact n ps (Option.some.inj e).symm
  have old : ∀ b o, s.heap.get? b = some o → b ≠ c ∧ b ≠ P' := fun b o e => ⟨Nat.ne_of_lt (Nat.lt_of_lt_of_le (Heap.lt_size e) hc), Nat.ne_of_lt (Nat.lt_of_lt_of_le (Heap.lt_size e) hp')⟩
  have tr : ∀ b u, H b = some u → (∀ xs, u ≠ .tbl xs) → upd (upd (upd H P (.tbl (ps ++ more))) c (CodeN c q P')) P' (.tbl #[]) b = some u := fun b u e n => by
    rw [at_ b (nP b u e n) (ne_of_none e nC) (ne_of_none e nQ)]
    exact e
  have nN : ∀ b, H b = none → b ≠ P := fun b e z => by
    rw [z, hP] at e
    cases e
  refine I.call (ch := []) (g' := s.gens) (d' := s.drawn) ⟨fun b o e n _ _ => k b o (nN b n) e, fun b o e n _ _ => ⟨o.slots, k b o (nN b n) e⟩, fun b o e n _ => ?_, fun b o e _ => ?_, fun b xs e => tr b _ e (fun _ z => by cases z), fun b o u e => tr b _ e (fun _ z => by cases z), fun b xs e => ?_⟩ (fun b u e => ?_) I.bare (fun b hb => absurd hb (by simp))
  · rw [at_ b (nN b n) (old b o e).1 (old b o e).2]
    exact n
  · by_cases z : b = P
    · exact ⟨_, by rw [z]; exact hm⟩
    · exact ⟨o, k b o z e⟩
  · by_cases z : b = P
    · rw [z, hP] at e
      cases e
      exact ⟨more, by rw [z]; exact atP⟩
    · rw [at_ b z (ne_of_none e nC) (ne_of_none e nQ)]
      exact ⟨#[], by rw [e]; simp⟩
  · by_cases z3 : b = P'
    · rw [z3, upd_same] at e
      cases e
      rw [z3]
      exact hn
    · by_cases z2 : b = c
      · rw [z2, atC] at e
        cases e
        rw [z2]
        obtain ⟨c2, oc, vs, t, e2, g2, r2⟩ := id hr
        cases e2
        exact ⟨⟨hd, hr⟩, ⟨oc, g2⟩, fun h1 h2 x st => ⟨head_at x.1 st, rec_at x.2 st⟩⟩
      · by_cases z1 : b = P
        · rw [z1, atP] at e
          cases e
          rw [z1]
          exact hm
        · rw [at_ b z1 z2 z3] at e
          refine (I.hok b u e).stay (fun d v hd q => k d v ?_ q) (fun d q => tr d _ q (fun _ z => by cases z)) fun d xs q => tr d _ q (fun _ z => by cases z)
          rcases hd with z | z
          · rw [z]
            exact z1
          · exact nP d _ z (fun _ z => by cases z)
/-- a lambda is made -/
theorem lam_mk {host : Str → Option Str} {L : List (Addr × Str)} {c P P0 : Addr} {ps : Arguments} {e : Expr} {sc : Scope} {pos : Pos} {E : Value → Shared → Prop} {Q : Value → Shared → Prop} (I : Inv X pins σ H s) (hcode : X.env.code = .ref c)
    (hd : PySem.W.CodeHd s.heap c P) (hB : X.base.BuiltinsAt X.mg P0) (hm : (P, X.env.qual ++ "<lambda>") ∈ L) (hT : Tbn host L H) (hdef : defaultsOf ps X.env = ([], [])) (hfree : ∀ y ∈ sc.names, y.2 = .free → ∃ c, X.env.cells.lookup y.1 = some c)
    (h : ∀ (f c' P' : Addr) (pm ctv : Value) (H1 : Hp) (s' : Shared), Inv X pins σ H1 s' → ExtN H H1 → Tbn host L H1 → (∀ q2, host (X.env.qual ++ "<lambda>") = some q2 → Tbn host ((P', q2) :: L) H1) →
      s'.heap.get? f = some (PySem.W.kla_obj "<lambda>" (X.env.qual ++ "<lambda>") ps e sc (cloFrom X.env.cells sc.names []) pm c' ctv) → H1 f = none → f ∉ frs X.stack → H1 c' = some (CodeN c' (X.env.qual ++ "<lambda>") P') → Q (.ref f) s') :
    wpAny (model X.prog X.w) X.A (eval (.Lambda ps e sc pos) X.env) Q E s := by
  obtain ⟨ν, h1, h2⟩ := hT
  have eP := h1 _ hm
  obtain ⟨tb, hP, ht, ha⟩ := h2 P _ eP
  have hP' : s.heap.get? P = some { cls := .none, data := .fields tb } := I.hok P _ hP
  have gl : s.heap.Ns mainGlobals X.mg := I.mod.glob.keeps I.bk
  have gP : mainGlobals ≠ P := fun z => by
    obtain ⟨o, es, ep, e1, e2, _⟩ := gl
    rw [z, hP'] at e1
    cases e1
    cases e2
  have bP : s.heap.BuiltinsAt X.mg P := by
    obtain ⟨bm, ob, m1, m2, m2', m3, m4, m5, m6, m7⟩ := hB
    have m4' := I.bk _ _ m4
    refine ⟨bm, ob, m1, m2, m2', fun z => ?_, m4', m5, m6, m7⟩
    rw [z, hP'] at m4'
    cases m4'
    cases m5
  have nofr : ∀ f, s.heap.objs.size ≤ f → f ∉ frs X.stack := fun f hf z => by
    obtain ⟨_, o, e1, _⟩ := I.stack.mem z
    exact Nat.lt_irrefl _ (Nat.lt_of_lt_of_le (Heap.lt_size e1) hf)
  refine PySem.W.kla_eval hdef ?_
  cases hc : codeAmong pos tb.toList with
  | none =>
    refine mk_new (mg := X.mg) (closure_ok hfree) I.ok.glob gl hcode hd hP' ht hc gP bP fun c' P' ctv h' tk hx g1 g2 g3 r1 hd2 n1 t1 => ?_
    have I1 := inv_table2 (t' := tk) (q := X.env.qual ++ "<lambda>") (more := #[rawInt pos.line, rawInt pos.col, .ref c']) I hP hx t1 g1 g3 hd2 r1 n1
    have nC : H c' = none := I.hok.fresh g1
    have nQ : H P' = none := I.hok.fresh g3
    have cP : c' ≠ P' := by
      obtain ⟨_, _, _, _, _, _, _, _, _, _, _, _, _, _, _, _, _, _, z⟩ := hd2
      exact z
    generalize hH1 : upd (upd (upd H P (.tbl (tb ++ #[rawInt pos.line, rawInt pos.col, .ref c']))) c' (CodeN c' (X.env.qual ++ "<lambda>") P')) P' (.tbl #[]) = H1 at I1
    have hE : ExtN H H1 := fun b o z n => by
      have n1 : b ≠ P := fun y => n tb (Option.some.inj (z.symm.trans (by rw [y]; exact hP)))
      rw [← hH1, upd_ne (ne_of_none z nQ), upd_ne (ne_of_none z nC), upd_ne n1]
      exact z
    have atC : H1 c' = some (CodeN c' (X.env.qual ++ "<lambda>") P') := by rw [← hH1, upd_ne cP, upd_same]
    have atP : H1 P = some (.tbl (tb ++ #[rawInt pos.line, rawInt pos.col, .ref c'])) := by rw [← hH1, upd_ne (ne_of_none hP nQ), upd_ne (ne_of_none hP nC), upd_same]
    have atQ : H1 P' = some (.tbl #[]) := by rw [← hH1, upd_same]
    have eL : (tb ++ #[rawInt pos.line, rawInt pos.col, .ref c']).toList = tb.toList ++ [rawInt pos.line, rawInt pos.col, .ref c'] := by simp
    -- names that grow
    have grow : ∀ ν' : Addr → Option Str, (∀ b q, ν b = some q → ν' b = some q) → (∀ b q, ν' b = some q → b ≠ P' → ν b = some q) → (∀ q2, host (X.env.qual ++ "<lambda>") = some q2 → ν' P' = some q2) → Nu host ν' H1 := fun ν' up dn at' b q hb => by
      by_cases z : b = P'
      · refine ⟨#[], by rw [z]; exact atQ, trivial, fun p' cv y => ?_⟩
        have y' : codeAmong p' [] = some cv := y
        simp [codeAmong] at y'
      · have hb' := dn b q hb z
        by_cases z2 : b = P
        · rw [z2] at hb' ⊢
          have eq : q = X.env.qual ++ "<lambda>" := Option.some.inj (hb'.symm.trans eP)
          rw [eq]
          refine ⟨_, atP, by rw [eL]; exact PySem.TriplesOk_snoc _ _ _ _ ht, fun p' cv y => ?_⟩
          rw [eL] at y
          rcases among_app _ ht y with y | y
          · obtain ⟨c0, P0, y1, y2, y3⟩ := ha p' cv y
            exact ⟨c0, P0, y1, hE _ _ y2 codeN_ne, fun q2 e2 => up _ _ (y3 q2 e2)⟩
          · exact ⟨c', P', y, atC, at'⟩
        · obtain ⟨tb', a1, a2, a3⟩ := h2 b q hb'
          refine ⟨tb', ?_, a2, fun p' cv y => ?_⟩
          · rw [← hH1, upd_ne (ne_of_none a1 nQ), upd_ne (ne_of_none a1 nC), upd_ne z2]
            exact a1
          · obtain ⟨c0, P0, y1, y2, y3⟩ := a3 p' cv y
            exact ⟨c0, P0, y1, hE _ _ y2 codeN_ne, fun q2 e2 => up _ _ (y3 q2 e2)⟩
    have fresh : ν P' = none := by
      cases z : ν P' with
      | none => rfl
      | some q =>
        obtain ⟨_, y, _⟩ := h2 P' q z
        rw [nQ] at y
        cases y
    have tail : Tbn host L H1 ∧ ∀ q2, host (X.env.qual ++ "<lambda>") = some q2 → Tbn host ((P', q2) :: L) H1 := by
      have g := grow (fun b => if b = P' then host (X.env.qual ++ "<lambda>") else ν b) (fun b q hb => by
        have n : b ≠ P' := fun z => by
          rw [z, fresh] at hb
          cases hb
        show (if b = P' then _ else ν b) = some q
        rw [if_neg n]
        exact hb) (fun b q hb n => by
        have hb : (if b = P' then host (X.env.qual ++ "<lambda>") else ν b) = some q := hb
        rw [if_neg n] at hb
        exact hb) (fun q2 e2 => by
        show (if P' = P' then host (X.env.qual ++ "<lambda>") else ν P') = some q2
        rw [if_pos rfl]
        exact e2)
      have old : ∀ p ∈ L, (if p.1 = P' then host (X.env.qual ++ "<lambda>") else ν p.1) = some p.2 := fun p hp => by
        have n : p.1 ≠ P' := fun z => by
          have := h1 p hp
          rw [z, fresh] at this
          cases this
        rw [if_neg n]
        exact h1 p hp
      refine ⟨⟨_, old, g⟩, fun q2 e2 => ⟨_, fun p hp => ?_, g⟩⟩
      rcases List.mem_cons.mp hp with rfl | hp
      · show (if P' = P' then host (X.env.qual ++ "<lambda>") else ν P') = some q2
        rw [if_pos rfl]
        exact e2
      · exact old p hp
    have I2 : Inv X pins σ H1 { s with heap := h'.push (PySem.W.kla_obj "<lambda>" (X.env.qual ++ "<lambda>") ps e sc (cloFrom X.env.cells sc.names []) ((X.mg "__name__").getD .none) c' ctv), toks := tk } :=
      Inv.kept (s := { s with heap := h', toks := tk }) I1 fun b o z => Heap.get?_push_of_some _ z
    exact h h'.objs.size c' P' _ ctv H1 _ I2 hE tail.1 tail.2 (Heap.get?_push_size _ rfl) (I1.hok.fresh (Nat.le_refl _)) (nofr _ (Nat.le_trans g1 (Nat.le_of_lt g2))) atC
  | some cv =>
    obtain ⟨c', P', e', hco, hho⟩ := ha pos cv hc
    subst e'
    refine PySem.W.kla_makeFunctionHit (c := c) (P := P) (ps := tb) (closure_ok hfree) I.ok.glob gl hcode hd hP' ht hc bP fun ctv h' tk hx hsz => ?_
    have I1 : Inv X pins σ H { s with heap := h', toks := tk } := I.kept hx
    refine h h'.objs.size c' P' _ ctv H _ (Inv.kept (s := { s with heap := h', toks := tk }) I1 fun b o z => Heap.get?_push_of_some _ z) (ExtN.refl H) ⟨ν, h1, h2⟩ (fun q2 e2 => ⟨ν, fun p hp => ?_, h2⟩) (Heap.get?_push_size _ rfl) (I1.hok.fresh (Nat.le_refl _)) (nofr _ hsz) hco
    rcases List.mem_cons.mp hp with rfl | hp
    · exact hho q2 e2
    · exact h1 p hp
end
end Tw
namespace Tw
open PySem PySem.Spec PyProof.Rows L2 He LamX
/-- no cell of X stands among the frames -/
def CellsOut (X : Cx) : Prop := ∀ (pins : List (Addr × Obj)) (σ : L2.St) (H : Hp) (s : Shared), Inv X pins σ H s → ∀ y c, X.env.cells.lookup y = some c → c ∉ frs X.stack
theorem cellsOut_def {X : Cx} (hfn : ∀ y, X.fn y = true) : CellsOut X := fun pins σ H s I y c ey hb => by
  have ge := I.ok.cab y c (hfn y) ey
  rcases List.mem_cons.mp (I.stkSub _ hb) with z | z
  · exact I.cne y c ey z
  · obtain ⟨_, o', ho', _⟩ := I.ok.funs.mem z
    exact Nat.lt_irrefl _ (Nat.lt_of_lt_of_le (Heap.lt_size ho') ge)
/-- a lambda of the parameters xs (none or one), no other name of its own: captured ones and globals -/
structure LamQ (sc scope : Scope) (xs : List Str) : Prop where
  kind : scope.kind = .function
  co : scope.isCoroutine = false
  gen : scope.isGenerator = false
  one : xs.length ≤ 1
  par : ∀ x ∈ xs, scope.names.lookup x = some .local
  own : ∀ y ∈ scope.names, y.2 ≠ .cell
  free : ∀ y ∈ scope.names, y.2 = .free → sc.names.lookup y.1 = some .cell ∨ sc.names.lookup y.1 = some .free
def lamQB (sc scope : Scope) (xs : List Str) : Bool :=
  decide (scope.kind = .function) && (!scope.isCoroutine && (!scope.isGenerator && (decide (xs.length ≤ 1) && ((xs.all fun x => decide (scope.names.lookup x = some .local)) &&
    scope.names.all fun y => !decide (y.2 = .cell) && (!decide (y.2 = .free) || (decide (sc.names.lookup y.1 = some .cell) || decide (sc.names.lookup y.1 = some .free)))))))
theorem lamQ_by {sc scope : Scope} {xs : List Str} (h : lamQB sc scope xs = true) : LamQ sc scope xs := by
  unfold lamQB at h
  obtain ⟨h1, h⟩ := ba h
  obtain ⟨h2, h⟩ := ba h
  obtain ⟨h3, h⟩ := ba h
  obtain ⟨h4, h⟩ := ba h
  obtain ⟨h5, h6⟩ := ba h
  refine ⟨of_decide_eq_true h1, by simpa using h2, by simpa using h3, of_decide_eq_true h4, fun x hx => of_decide_eq_true (List.all_eq_true.mp h5 x hx), fun y hy => ?_, fun y hy e => ?_⟩
  · have := (ba (List.all_eq_true.mp h6 y hy)).1
    simpa using this
  · have := (ba (List.all_eq_true.mp h6 y hy)).2
    rw [decide_eq_true e, Bool.not_true, Bool.false_or, Bool.or_eq_true] at this
    exact this.imp of_decide_eq_true of_decide_eq_true
theorem one_look {xs : List Str} {us : List Value} {y : Str} {u : Value} (h : xs.length ≤ 1) (e1 : xs[0]? = some y) (e2 : us[0]? = some u) : (xs.zip us).reverse.lookup y = some u := by
  cases xs with
  | nil => cases e1
  | cons x r =>
    cases us with
    | nil => cases e2
    | cons w ws =>
      cases e1
      cases e2
      cases r with
      | cons _ _ =>
        simp at h
      | nil => simp
section
variable {X : Cx} {pins : List (Addr × Obj)} {σ : L2.St} {H HZ : Hp} {s s1 : Shared}
theorem clo_sub (hok : X.Ok) {scope : Scope} (L : ∀ y ∈ scope.names, y.2 = .free → X.env.scope.names.lookup y.1 = some .cell ∨ X.env.scope.names.lookup y.1 = some .free) {y : Str} {c : Addr} (e : (cloFrom X.env.cells scope.names []).lookup y = some c) : X.env.cells.lookup y = some c := by
  rcases cloFrom_mem (PySem.mem_of_lookup e) with hm | ⟨h1, h2⟩
  · cases hm
  · obtain ⟨c1, hc⟩ : ∃ c, X.env.cells.lookup y = some c := by
      rcases L _ h1 rfl with k | k
      · exact hok.has _ (.inl k)
      · exact hok.has _ (.inr k)
    have e2 : c = c1 := by
      rw [h2, hc] <;> rfl
    rw [e2]
    exact hc
theorem lam_beginN {A : Around} {outer : List Env} {E : XK} {scope : Scope} {f c' : Addr} {h₁ : Heap} {tk : Nat} {xs : List Str} {cs : List Str} {caps : List Nat} {vs : List V} {us : List Value} (I : Inv X pins σ H s) (hout : CellsOut X) (L : LamQ X.env.scope scope xs)
    (hcs : ∀ (j : Nat) (y : Str) (i : Nat), cs[j]? = some y → caps[j]? = some i → X.N[i]? = some y) (hl : cs.length = caps.length) (hfr : ∀ y ∈ cs, scope.names.lookup y = some .free)
    (e0 : Env0 X.prog X.w X.K X.mg (baseN s.heap H (frs X.stack)) A outer s1 HZ) (hd : A.handled = none) (ru : Vals vs us) (hn : vs.length = xs.length)
    (hns : h₁.Ns s1.heap.objs.size fun y => (xs.zip us).reverse.lookup y) (kp : ∀ b o, s1.heap.get? b = some o → h₁.get? b = some o) :
    Inv (lamC X (baseN s.heap H (frs X.stack)) (xs ++ cs) A outer s1 HZ E scope f c') [] (vs.map some ++ capS σ caps) HZ { s1 with heap := h₁, toks := tk } := by
  have hfree : ∀ y ∈ scope.names, y.2 = .free → ∃ c, X.env.cells.lookup y.1 = some c := fun y hy e => by
    rcases L.free y hy e with k | k
    · exact I.ok.has _ (.inl k)
    · exact I.ok.has _ (.inr k)
  have cm : ∀ {y c}, (cloFrom X.env.cells scope.names []).lookup y = some c → X.env.cells.lookup y = some c := fun {y c} e => clo_sub I.ok L.free e
  have look : ∀ {y}, scope.names.lookup y = some .free → ∃ c, (cloFrom X.env.cells scope.names []).lookup y = some c := fun {y} hl => by
    have hy : (y, NameKind.free) ∈ scope.names := PySem.mem_of_lookup hl
    exact mem_lookup (cloFrom_has (cells := X.env.cells) (acc := []) hy)
  have cellB : ∀ {y : Str} {c : Addr} {v : Option Value}, X.env.cells.lookup y = some c → s.heap.IsCell c v → h₁.IsCell c v ∧ HZ c = none := fun {y c v} ey ⟨o, ho, hdo⟩ => by
    have q := e0.bs c o (baseN_get ho (I.freeC y c ey) (hout pins σ H s I y c ey))
    exact ⟨⟨o, kp _ _ q.1, hdo⟩, q.2⟩
  have noA : ∀ b : Addr, b ∉ (lamC X (baseN s.heap H (frs X.stack)) (xs ++ cs) A outer s1 HZ E scope f c').ex := fun b z => absurd (show b ∈ ([] : List Addr) from z) (by simp)
  refine ⟨⟨e0.mod, L.kind, rfl, rfl, Nat.le_refl _, fun y z c e1 e2 => I.ok.inj y z c (cm e1) (cm e2), fun y hy => ?_, fun y c z _ => ?_, fun _ => hd, Around.frames_deeper e0.frames, .inr ⟨rfl, rfl⟩, fun b z => absurd z (noA b), e0.bs, e0.bsz, fun b _ _ => noA b,
      fun b z => absurd z (noA b), e0.funs, e0.frf⟩,
    rfl, e0.bare, Un.kept kp, ⟨_, hns, fun i y v e1 e2 e3 => ?_⟩, fun y c e => ?_, e0.hok.fresh (Nat.le_refl _), fun y c e => ?_, fun q hq => absurd (show q ∈ ([] : List (Addr × Obj)) ++ [] from hq) (by simp), e0.hok.kept kp, ?_⟩
  · have hy : scope.names.lookup y = some .cell ∨ scope.names.lookup y = some .free := hy
    rcases hy with hy | hy
    · exact absurd rfl (L.own _ (PySem.mem_of_lookup hy))
    · exact look hy
  · have z : false = true := z
    cases z
  · have e1 : (xs ++ cs)[i]? = some y := e1
    have e2 : (vs.map some ++ capS σ caps)[i]? = some (some v) := e2
    by_cases hi : i < xs.length
    · rw [List.getElem?_append_left hi] at e1
      rw [List.getElem?_append_left (by rw [List.length_map, hn]; exact hi), List.getElem?_map] at e2
      have h1 := L.one
      have i0 : i = 0 := by omega
      subst i0
      obtain ⟨u0, q1, q2⟩ := ru.get (i := 0) (x := v) (by
        cases q : vs[0]? with
        | none =>
          rw [q] at e2
          cases e2
        | some w =>
          rw [q] at e2
          cases e2
          rfl)
      refine ⟨u0, q2, .inl ⟨L.par _ (List.mem_of_getElem? e1), ?_⟩⟩
      exact one_look h1 e1 q1
    · rw [List.getElem?_append_right (by omega)] at e1
      rw [List.getElem?_append_right (by rw [List.length_map, hn]; omega), List.length_map, hn] at e2
      generalize i - xs.length = j at e1 e2
      have hj : j < caps.length := by
        rw [← hl]
        exact (List.getElem?_eq_some_iff.mp e1).1
      have ec : caps[j]? = some caps[j] := List.getElem?_eq_getElem hj
      generalize caps[j] = i at ec
      have hN := hcs j y i e1 ec
      have e3 : σ[i]? = some (some v) := by
        unfold capS at e2
        rw [List.getElem?_map, ec] at e2
        have e2 : (σ[i]?).getD none = some v := Option.some.inj e2
        cases q : σ[i]? with
        | none =>
          rw [q] at e2
          cases e2
        | some o =>
          rw [q] at e2
          exact congrArg some e2
      have kf := hfr y (List.mem_of_getElem? e1)
      obtain ⟨m, hn, hlo⟩ := I.loc
      have hvis : Vis X.env.scope y := (L.free _ (PySem.mem_of_lookup kf) rfl).elim (fun k => .inr (.inl k)) (fun k => .inr (.inr k))
      obtain ⟨w', r, q⟩ := hlo i y v hN e3 hvis
      obtain ⟨c2, h2⟩ := look kf
      refine ⟨w', r, .inr ⟨.inr kf, c2, h2, ?_⟩⟩
      have c1 := cm h2
      rcases q with ⟨k', _⟩ | ⟨_, c3, e', z⟩
      · have k' : X.env.scope.names.lookup y = some .local := k'
        rcases L.free _ (PySem.mem_of_lookup kf) rfl with k2 | k2 <;> rw [show X.env.scope.names.lookup y = _ from k2] at k' <;> cases k'
      · rw [c1] at e'
        cases e'
        exact (cellB c1 z).1
  · obtain ⟨w', z⟩ := I.cell y c (cm e)
    exact ⟨w', (cellB (cm e) z).1⟩
  · obtain ⟨v, z⟩ := I.cell y c (cm e)
    exact (cellB (cm e) z).2
  · show (vs.map some ++ capS σ caps).length = (xs ++ cs).length
    unfold capS
    rw [List.length_append, List.length_append, List.length_map, List.length_map, hn, hl]
/-- within the lambda too no cell is a frame -/
theorem cellsOut_lam {A : Around} {outer : List Env} {E : XK} {scope : Scope} {f c' : Addr} {N : List Str} (I : Inv X pins σ H s) (hout : CellsOut X) (hfree : ∀ y ∈ scope.names, y.2 = .free → X.env.scope.names.lookup y.1 = some .cell ∨ X.env.scope.names.lookup y.1 = some .free) :
    CellsOut (lamC X (baseN s.heap H (frs X.stack)) N A outer s1 HZ E scope f c') := fun pins' σ' H' s' J y c ey hb => by
  have e1 := clo_sub I.ok hfree ey
  rcases List.mem_cons.mp (J.stkSub _ hb) with z | z
  · exact J.cne y c ey z
  · have q := (J.ok.funs.mem z).1
    obtain ⟨v, o, ho, _⟩ := I.cell y c e1
    have q2 := baseN_get ho (I.freeC y c e1) (hout pins σ H s I y c e1)
    have q : (baseN s.heap H (frs X.stack)).get? c = none := q
    rw [q2] at q
    cases q
/-- what such a lambda promises -/
def spLamN (n : Nat) (tb : XK → TE) (σc : L2.St) (c' P' : Addr) (q : Str) : Sp := fun vs HZ Q E => vs.length = n ∧ HZ c' = some (CodeN c' q P') ∧ tb E (vs.map some ++ σc) HZ Q
theorem lam_fnN {f c' P' : Addr} {pm ctv : Value} {params : Arguments} {body : Expr} {scope : Scope} {k : Nat} {xs cs : List Str} {caps : List Nat} {tb : XK → TE} (I : Inv X pins σ H s) (hout : CellsOut X) (L : LamQ X.env.scope scope xs)
    (hcs : ∀ (j : Nat) (y : Str) (i : Nat), cs[j]? = some y → caps[j]? = some i → X.N[i]? = some y) (hl : cs.length = caps.length) (hfr : ∀ y ∈ cs, scope.names.lookup y = some .free)
    (hf : s.heap.get? f = some (PySem.W.kla_obj "<lambda>" (X.env.qual ++ "<lambda>") params body scope (cloFrom X.env.cells scope.names []) pm c' ctv)) (hf0 : H f = none) (hf1 : f ∉ frs X.stack)
    (hbind : ∀ us : List Value, us.length = xs.length → bindArgs (PySem.W.kla_fn "<lambda>" (X.env.qual ++ "<lambda>") params body scope (cloFrom X.env.cells scope.names []) pm (.ref c') ctv) ⟨us, []⟩ = pure (xs.zip us))
    (hbody : ∀ (A : Around) (outer : List Env) (s1 : Shared) (H1 : Hp) (E : XK), Room k (A.deeper (lamEnv X scope s1.heap.objs.size f c')) → CellsOut (lamC X (baseN s.heap H (frs X.stack)) (xs ++ cs) A outer s1 H1 E scope f c') → PE (lamC X (baseN s.heap H (frs X.stack)) (xs ++ cs) A outer s1 H1 E scope f c') body (tb E)) :
    FnR X.prog X.w X.K X.mg (baseN s.heap H (frs X.stack)) (L2.CX X.prog X.w) (k + 1) f (spLamN xs.length tb (capS σ caps) c' P' (X.env.qual ++ "<lambda>")) := by
  intro A outer s1 HZ us vs Q E hr e0 r hsp
  obtain ⟨hn, hc, ht⟩ := hsp
  have of1 := (e0.bs f _ (baseN_get hf hf0 hf1)).1
  obtain ⟨⟨_, hrec⟩, _, _⟩ := e0.hok c' _ hc
  have lim : s1.heap.NoLimit := e0.mod.nolimit.keeps fun b o e => (e0.bs b o e).1
  refine PySem.W.kla_callFunE hr.depth of1 rfl L.co L.gen rfl hrec ?_
  rw [hbind us (by rw [← r.length]; exact hn)]
  refine wpAny_pure (wpAny_newFunctionEnv (fun y hy => L.own y hy) (fun y hy => L.par _ (List.of_mem_zip hy).1) (fun h₁ hns hsb => ⟨lim.fresh _ hsb, ?_⟩) L.kind)
  show codeAny _ _ (.expr body (lamEnv X scope s1.heap.objs.size f c')) _ _
  have kp : ∀ b o, s1.heap.get? b = some o → h₁.get? b = some o := fun b o e => hsb.extBut b o (Nat.ne_of_lt (Heap.lt_size e)) (Heap.get?_push_of_some _ e)
  have J : Inv (lamC X (baseN s.heap H (frs X.stack)) (xs ++ cs) A outer s1 HZ E scope f c') [] (vs.map some ++ capS σ caps) HZ { s1 with heap := h₁, toks := s1.toks + (xs.zip us).length } :=
    lam_beginN I hout L hcs hl hfr e0 hr.hd r hn hns kp
  refine PySem.W.kla_codeExpr (wpAny_mono ((hbody _ _ s1 HZ E (hr.deeper _) (cellsOut_lam I hout L.free)).run [] _ _ HZ Q J ht) (fun v s' hq => ?_) fun e s' hq => hq)
  obtain ⟨w', H', J', rv, q⟩ := hq
  exact ⟨w', H', J'.os, J'.bare, J'.base, J'.hok, rv, q⟩
end
end Tw
namespace Tw
open PySem PySem.Spec PyProof.Rows L2 He LamX
/-- base' has all of base -/
def Sub (base base' : Heap) : Prop := ∀ (b : Addr) (o : Obj), base.get? b = some o → base'.get? b = some o
theorem Sub.refl {b : Heap} : Sub b b := fun _ _ e => e
theorem Sub.trans {a b c : Heap} (x : Sub a b) (y : Sub b c) : Sub a c := fun d o e => y d o (x d o e)
/-- the module of built-ins stands in the base -/
def BmIn (base : Heap) (mg : Str → Option Value) : Prop := ∃ P0, base.BuiltinsAt mg P0
theorem BmIn.up {base base' : Heap} {mg : Str → Option Value} (b : BmIn base mg) (s : Sub base base') : BmIn base' mg := by
  obtain ⟨P0, bm, o, m1, m2, m3, m4, m5, m6⟩ := b
  exact ⟨P0, bm, o, m1, m2, m3, m4, s _ _ m5, m6⟩
theorem base_sub {X : Cx} {pins : List (Addr × Obj)} {σ : L2.St} {H : Hp} {s : Shared} (I : Inv X pins σ H s) {b : Addr} {o : Obj} (e : X.base.get? b = some o) : (baseN s.heap H (frs X.stack)).get? b = some o := by
  obtain ⟨h1, h2⟩ := I.env0.bs b o e
  refine baseN_get h1 h2 fun hb => ?_
  have z := (I.env0.funs.mem hb).1
  rw [e] at z
  cases z
/-- a lambda that is made in X, its body read by tb -/
structure LamAt (X : Cx) (L : List (Addr × Str)) (pre : Hp → Prop) (params : Arguments) (body : Expr) (scope : Scope) (k : Nat) (xs cs : List Str) (caps : List Nat) (tb : Addr → Addr → XK → TE) : Prop where
  made : ∃ c P, X.env.code = .ref c ∧ (P, X.env.qual ++ "<lambda>") ∈ L ∧ ∀ pins σ H s, Inv X pins σ H s → pre H → PySem.W.CodeHd s.heap c P
  bm : BmIn X.base X.mg
  out : CellsOut X
  lam : LamQ X.env.scope scope xs
  hcs : ∀ (j : Nat) (y : Str) (i : Nat), cs[j]? = some y → caps[j]? = some i → X.N[i]? = some y
  hl : cs.length = caps.length
  hfr : ∀ y ∈ cs, scope.names.lookup y = some .free
  def_ : defaultsOf params X.env = ([], [])
  bind : ∀ (us : List Value) (q : Str) (cl : List (Str × Addr)) (pm cv ctv : Value), us.length = xs.length → bindArgs (PySem.W.kla_fn "<lambda>" q params body scope cl pm cv ctv) ⟨us, []⟩ = pure (xs.zip us)
  run : ∀ (base : Heap) (A : Around) (outer : List Env) (s1 : Shared) (H1 : Hp) (E : XK) (f c' P' : Addr), Sub X.base base → Room k (A.deeper (lamEnv X scope s1.heap.objs.size f c')) → CellsOut (lamC X base (xs ++ cs) A outer s1 H1 E scope f c') → PE (lamC X base (xs ++ cs) A outer s1 H1 E scope f c') body (tb c' P' E)
/-- what is read of a lambda made and handed on -/
def rLam (P : Program) (w : World) (K : Fg) (mg : Str → Option Value) (host : Str → Option Str) (L : List (Addr × Str)) (pre : Hp → Prop) (q : Str) (k n : Nat) (tb : Addr → Addr → XK → TE) (σc : L2.St) (H : Hp) (go : Addr → Heap → Hp → Prop) : Prop :=
  Tbn host L H ∧ pre H ∧ ∀ (f c' P' : Addr) (H1 : Hp) (base' : Heap), ExtN H H1 → Tbn host L H1 → (∀ q2, host q = some q2 → Tbn host ((P', q2) :: L) H1) → H1 c' = some (CodeN c' q P') → PySem.W.FnAt f base' → FnR P w K mg base' (L2.CX P w) (k + 1) f (spLamN n (tb c' P') σc c' P' q) → go f base' H1
section
variable {X : Cx} {host : Str → Option Str} {L : List (Addr × Str)} {pre : Hp → Prop} {params : Arguments} {body : Expr} {scope : Scope} {k : Nat} {xs cs : List Str} {caps : List Nat} {tb : Addr → Addr → XK → TE}
theorem lam_arg {pins : List (Addr × Obj)} {σ : L2.St} {H : Hp} {s : Shared} {lpos : Pos} {go : Addr → Heap → Hp → Prop} {Q : Value → Shared → Prop} {E : Value → Shared → Prop} (W : LamAt X L pre params body scope k xs cs caps tb) (I : Inv X pins σ H s)
    (h : rLam X.prog X.w X.K X.mg host L pre (X.env.qual ++ "<lambda>") k xs.length tb (capS σ caps) H go)
    (hk : ∀ (f : Addr) (H1 : Hp) (s1 : Shared), Inv X pins σ H1 s1 → go f (baseN s1.heap H1 (frs X.stack)) H1 → Q (.ref f) s1) : wpAny (model X.prog X.w) X.A (eval (.Lambda params body scope lpos) X.env) Q E s := by
  obtain ⟨c, P, hcode, hm, hhd⟩ := W.made
  obtain ⟨P0, hB⟩ := W.bm
  obtain ⟨hT, hp, hgo⟩ := h
  refine lam_mk I hcode (hhd _ _ _ _ I hp) hB hm hT W.def_ (fun y hy e => (W.lam.free y hy e).elim (fun z => I.ok.has _ (.inl z)) fun z => I.ok.has _ (.inr z)) fun f c' P' pm ctv H1 s1 I1 e1 t1 t2 hf hf0 hf1 hc => ?_
  have bm : Sub X.base (baseN s1.heap H1 (frs X.stack)) := fun b o e => base_sub I1 e
  exact hk f H1 s1 I1 (hgo f c' P' H1 _ e1 t1 t2 hc ⟨_, _, _, _, baseN_get hf hf0 hf1⟩ (lam_fnN I1 W.out W.lam W.hcs W.hl W.hfr hf hf0 hf1 (fun us hu => W.bind us _ _ _ _ _ hu) fun A outer s2 H2 E hr ho => W.run _ A outer s2 H2 E f c' P' bm hr ho))
end
section
variable {X : Cx} {host : Str → Option Str} {L : List (Addr × Str)} {pre : Hp → Prop} {params : Arguments} {body : Expr} {scope : Scope} {k : Nat} {xs cs : List Str} {caps : List Nat} {tb : Addr → Addr → XK → TE}
variable {CX : CXT} {kc : Nat} {g C : Addr} {spB : Heap → Sp} {E : L2.St → XK} {x m : Str} {o : Expr} {to : TE} {p apos pos lpos : Pos} {Pr : Program} {wo : World} {K : Fg} {mg : Str → Option Value} {qn : Str}
def EndR (X : Cx) (pins : List (Addr × Obj)) (σ : L2.St) (Q : VK) (r : Result) (s' : Shared) : Prop :=
  match r with | .ok (.ret v) => EP X pins σ Q v s' | .ok _ => False | .error e => X.xe e s'
theorem back {pins : List (Addr × Obj)} {σ : L2.St} {H : Hp} {s : Shared} {Q : VK} (I : Inv X pins σ H s) (hx : ∀ σ, PassesAt CX X σ (E σ)) {r : Result} {s' : Shared} (hq : CR CX X.stack X.prog X.w H s Q (E σ) r s') : EndR X pins σ Q r s' := by
  match r, hq with
  | .error e, hq => exact hx σ pins H s e s' I hq
  | .ok (.ret u), hq => exact I.after hq
/-- g(lambda ..), g a def of the text that is promised over any base -/
theorem pe_lamG (W : LamAt X L pre params body scope k xs cs caps tb) (F : ∀ base' : Heap, Sub X.base base' → FnR X.prog X.w X.K X.mg base' CX kc g (spB base')) (hr : Room kc X.A) (hg : Gl X x) (hm : X.mg x = some (.ref g)) (hkp : PySem.W.keepIn X.K (.ref g) = true) (hx : ∀ σ, PassesAt CX X σ (E σ))
    (hdb : (x == ("__debug__" : Str)) = false := by decide) (he : starEach [Expr.Lambda params body scope lpos] X.env = (false, eval (.Lambda params body scope lpos) X.env) :: starEach [] X.env := by rfl) (hpl : (backTo pos (starEach [] X.env)).any (·.1) = false := by rfl)
    (hP : X.prog = Pr := by rfl) (hW : X.w = wo := by rfl) (hK : X.K = K := by rfl) (hM : X.mg = mg := by rfl) (hQ : X.env.qual ++ "<lambda>" = qn := by rfl) :
    PE X (.Call (.Name x p) [.Lambda params body scope lpos] [] pos) (fun σ H Q => rLam Pr wo K mg host L pre qn k xs.length tb (capS σ caps) H fun f base' H1 => spB base' [.ref f] H1 Q (E σ)) := by
  subst hP hW hK hM hQ
  refine ⟨fun pins s σ H Q I h => wpAny_Call_Name_kw (ld_glob I hg hm ?_ hdb)⟩
  refine PySem.W.callWith_K (first := []) (h₀ := X.base) I.ok.mod.kin hkp (Calls.spliced_cons (lam_arg W I h fun f H1 s1 I1 q => ?_)) he hpl
  exact Calls.spliced_nil ⟨I1.kIn, wpAny_call (codeAny_mono (F _ (fun b o e => base_sub I1 e) X.A X.stack s1 H1 [.ref f] [.ref f] Q (E σ) hr (env0_new I1) (.cons rfl .nil) q) fun r s' hq => back I1 hx hq)⟩
/-- o.m(lambda ..) -/
def tLamM (Pr : Program) (wo : World) (K : Fg) (mg : Str → Option Value) (host : Str → Option Str) (L : List (Addr × Str)) (pre : Hp → Prop) (qn : Str) (k n : Nat) (tb : Addr → Addr → XK → TE) (caps : List Nat) (C : Addr) (m : Str) (spB : Heap → Sp) (E : L2.St → XK) (to : TE) : TE := fun σ H Q =>
  to σ H fun y H0 => ∃ a dx fs, y = .ref a ∧ H0 a = some (.ins C dx fs) ∧ fs.lookup m = none ∧ rLam Pr wo K mg host L pre qn k n tb (capS σ caps) H0 fun f base' H1 => spB base' [.ref a, .ref f] H1 Q (E σ)
theorem pe_lamM {pl : Sem Bool} (hf : PE X o to) (cl : Cls X.K C) (me : Meth X.K C m g) (W : LamAt X L pre params body scope k xs cs caps tb) (F : ∀ base' : Heap, Sub X.base base' → FnR X.prog X.w X.K X.mg base' CX kc g (spB base')) (hr : Room kc X.A) (hx : ∀ σ, PassesAt CX X σ (E σ))
    (he : starEach [Expr.Lambda params body scope lpos] X.env = (false, eval (.Lambda params body scope lpos) X.env) :: starEach [] X.env := by rfl) (hpl : (backTo pos (starEach [] X.env)).any (·.1) = false := by rfl)
    (ht : eval (.Call (.Attribute o m apos) [.Lambda params body scope lpos] [] pos) X.env = (do
      let ov ← eval o X.env
      standAt apos.atName
      let (f, first) ← holding [ov] (getMethod ov m pl)
      callWith pos f first (backTo pos (starEach [Expr.Lambda params body scope lpos] X.env)) (backToKw pos (keywordEach [] X.env))) := by rfl)
    (hP : X.prog = Pr := by rfl) (hW : X.w = wo := by rfl) (hK : X.K = K := by rfl) (hM : X.mg = mg := by rfl) (hQ : X.env.qual ++ "<lambda>" = qn := by rfl) :
    PE X (.Call (.Attribute o m apos) [.Lambda params body scope lpos] [] pos) (tLamM Pr wo K mg host L pre qn k xs.length tb caps C m spB E to) := by
  subst hP hW hK hM hQ
  refine ⟨fun pins s σ H Q I h => ?_⟩
  refine PySem.W.methodCall_KW (pl := pl) (thn (hf.run pins s σ H _ I h) fun u s1 ⟨y, H0, I0, ry, a, dx, fs, ey, ea, l, q⟩ => ?_) ht
  subst ey
  obtain rfl : u = Value.ref a := ry
  refine getmeth_ok I0 ea cl me l ?_
  refine PySem.W.callWith_K (first := [.ref a]) (h₀ := X.base) I0.ok.mod.kin me.kp (Calls.spliced_cons (lam_arg W I0 q fun f H1 s2 I1 q1 => ?_)) he hpl
  exact Calls.spliced_nil ⟨I1.kIn, wpAny_call (codeAny_mono (F _ (fun b o e => base_sub I1 e) X.A X.stack s2 H1 [.ref a, .ref f] [.ref a, .ref f] Q (E σ) hr (env0_new I1) (.cons rfl (.cons rfl .nil)) q1) fun r s' hq => back I1 hx hq)⟩
/-- o.m(k=lambda ..) -/
theorem pe_lamMK {pl : Sem Bool} {fd : FuncData} {ps : List Str} {kw : Str} {kpos : Pos} (hf : PE X o to) (cl : Cls X.K C) (me : Meth X.K C m g) (W : LamAt X L pre params body scope k xs cs caps tb) (F : ∀ base' : Heap, Sub X.base base' → FnOk X.prog X.w X.K X.mg base' CX kc g fd ps (spB base')) (hr : Room kc X.A) (hx : ∀ σ, PassesAt CX X σ (E σ)) (hb : KBn X.K fd ps 1 [kw] (fun us ws => us ++ ws) (fun vs zs => vs ++ zs))
    (hpl : ((backTo pos (starEach [] X.env)).any (·.1) || (backToKw pos (keywordEach [⟨some kw, .Lambda params body scope lpos, kpos⟩] X.env)).any (·.1.isNone)) = false := by rfl)
    (hall : (backToKw pos (keywordEach [⟨some kw, .Lambda params body scope lpos, kpos⟩] X.env)).all (·.1.isSome) = true := by rfl) (hks : (backToKw pos (keywordEach [⟨some kw, .Lambda params body scope lpos, kpos⟩] X.env)).filterMap (·.1) = [kw] := by rfl)
    (ht : eval (.Call (.Attribute o m apos) [] [⟨some kw, .Lambda params body scope lpos, kpos⟩] pos) X.env = (do
      let ov ← eval o X.env
      standAt apos.atName
      let (f, first) ← holding [ov] (getMethod ov m pl)
      callWith pos f first (backTo pos (starEach [] X.env)) (backToKw pos (keywordEach [⟨some kw, .Lambda params body scope lpos, kpos⟩] X.env))) := by rfl)
    (hP : X.prog = Pr := by rfl) (hW : X.w = wo := by rfl) (hK : X.K = K := by rfl) (hM : X.mg = mg := by rfl) (hQ : X.env.qual ++ "<lambda>" = qn := by rfl) :
    PE X (.Call (.Attribute o m apos) [] [⟨some kw, .Lambda params body scope lpos, kpos⟩] pos) (tLamM Pr wo K mg host L pre qn k xs.length tb caps C m spB E to) := by
  subst hP hW hK hM hQ
  refine ⟨fun pins s σ H Q I h => ?_⟩
  refine PySem.W.methodCall_KW (pl := pl) (thn (hf.run pins s σ H _ I h) fun u s1 ⟨y, H0, I0, ry, a, dx, fs, ey, ea, l, q⟩ => ?_) ht
  subst ey
  obtain rfl : u = Value.ref a := ry
  refine getmeth_ok I0 ea cl me l ?_
  refine PySem.W.callWith_KW0 (h₀ := X.base) (first := [.ref a]) I0.ok.mod.kin me.kp hall ?_ hpl
  rw [hks]
  show wpAny _ _ (evalAll [(do let v ← eval (.Lambda params body scope lpos) X.env; standAt pos; pure v)]) _ _ s1
  refine wpAny_evalAll_cons (wpAny_bind (lam_arg W I0 q fun f H1 s2 I1 q1 => wpAny_bind (wpAny_standAt (wpAny_pure (wpAny_evalAll_nil ⟨I1.kIn, ?_⟩)))))
  have l1 : ([.ref a] : List Value).length = 1 := rfl
  refine wpAny_call (codeAny_mono ((F (baseN s2.heap H1 (frs X.stack)) (fun b o e => base_sub I1 e)).run X.A X.stack s2 H1 ⟨[.ref a], [kw].zip [.ref f]⟩ [.ref a, .ref f] [.ref a, .ref f] Q (E σ) hr (env0_new I1) (hb.to s2 [.ref a] [.ref f] I1.kIn rfl rfl) (.cons rfl (.cons rfl .nil)) q1) fun r s' hq => back I1 hx hq)
/-- x(), x a local name that holds a function of the base -/
theorem pe_callF0 {CX : CXT} {k i : Nat} {f : Addr} {sp : Sp} {E : XK} (hN : X.N[i]? = some x) (hv : Vis X.env.scope x) (hf : PySem.W.FnAt f X.base) (F : FnR X.prog X.w X.K X.mg X.base CX k f sp) (hr : Room k X.A) (hx : Passes CX X E)
    (hd : (x == ("__debug__" : Str)) = false := by decide) (hcd : (x == ("__classdict__" : Str)) = false := by decide) :
    PE X (.Call (.Name x p) [] [] pos) (fun σ H Q => σ[i]? = some (some (.ref f)) ∧ sp [] H Q E) := by
  refine ⟨fun pins s σ H Q I h => wpAny_Call_Name_kw (thn ((pe_var (pos := p) (i := i) hN hv hd hcd).run pins s σ H (fun v H1 => v = .ref f ∧ H1 = H) I ⟨.ref f, h.1, rfl, rfl⟩) fun u s1 ⟨v, H1, I1, r1, ev, eH⟩ => ?_)⟩
  subst ev eH
  cases r1
  obtain ⟨oc, od, fd, sl, hfo⟩ := hf
  refine PySem.W.callWith_F0 (first := []) ⟨oc, od, fd, sl, I1.bk _ _ hfo⟩ ?_
  exact wpAny_call (run_fnR F hr hx I1 .nil h.2)
end
end Tw
/-! Tw: sorted(xs, key=lambda x: (e1, e2)), e1 a number, e2 a number or a text, read without a change. -/
namespace Tw
open PySem PySem.Spec PyProof.Rows L2 He LamX
/-- an expression that leaves the heap as it is -/
structure PU (X : Cx) (e : Expr) (t : L2.St → Hp → (V → Prop) → Prop) : Prop where
  run : ∀ (pins : List (Addr × Obj)) (s : Shared) (σ : L2.St) (H : Hp) (Q : V → Prop) (R : Value → Shared → Prop) (E : Value → Shared → Prop), Inv X pins σ H s → t σ H Q → (∀ u tk v, RelV v u → Q v → R u { s with toks := tk }) → wpAny (model X.prog X.w) X.A (eval e X.env) R E s
section
variable {X : Cx} {t t' : L2.St → Hp → (V → Prop) → Prop} {e o : Expr} {p pos : Pos} {x fld : Str} {i : Nat}
theorem pu_var (hN : X.N[i]? = some x) (hv : Vis X.env.scope x) (hd : (x == ("__debug__" : Str)) = false := by decide) (hcd : (x == ("__classdict__" : Str)) = false := by decide) : PU X (.Name x pos) (fun σ _ Q => ∃ v, σ[i]? = some (some v) ∧ Q v) := by
  refine ⟨fun pins s σ H Q R E I h k => ?_⟩
  obtain ⟨v, e, h⟩ := h
  obtain ⟨m, hn, hl⟩ := I.loc
  obtain ⟨u, r, l⟩ := hl i x v hN e hv
  have fin : R u s := k u s.toks v r h
  rcases l with ⟨hk, hm⟩ | ⟨hk | hk, c, hc, hcell⟩
  · exact wpAny_Name (wpAny_loadName_local I.ok.kind hk hn hm fin) hd
  · exact wpAny_Name (wpAny_loadName_cell I.ok.kind hk hc hcell fin) hd
  · exact wpAny_Name (wpAny_loadName_free I.ok.kind hk hc hcell fin hcd) hd
theorem pu_fld {C : Addr} (he : PU X e t) (hb : attributeBase e fld X.env (eval e X.env) = eval e X.env) (cl : Cls X.K C) (na : NoAttr X.K C fld) :
    PU X (.Attribute e fld pos) (fun σ H Q => t σ H fun y => ∃ (a dx : Addr) (fs : List (Str × V)) (v : V), y = .ref a ∧ H a = some (.ins C dx fs) ∧ fs.lookup fld = some v ∧ (∀ b, v ≠ .ref b) ∧ Q v) := by
  refine ⟨fun pins s σ H Q R E I h k => attr_of hb ?_⟩
  refine he.run pins s σ H _ _ E I h fun u tk y ru hq => ?_
  obtain ⟨a, dx, fs, v, rfl, ha, lk, nr, q⟩ := hq
  obtain rfl : u = Value.ref a := ru
  obtain ⟨mA, O, r, _, _, _⟩ := ins_get I.hok ha
  obtain ⟨w, hw, rw'⟩ := RelO.some_of (v := v) (o := mA fld) (by rw [← lk]; exact r fld)
  exact get_map (s := { s with toks := tk }) I.kIn O (cl.get fld) cl.hd na hw (handed_of (v := v) rw') (k w (tk + 1) v rw' q)
theorem pu_ixT {K : Fg} (ha : PU X e t) (hb : PU X o t') (hs : PlainIx o) (hK : X.K = K := by rfl) : PU X (.Subscript e o pos) (fun σ H Q => t σ H fun y => t' σ H fun z => ∃ (b : Addr) (xs : List V) (j : Nat) (v : V), y = .ref b ∧ z = .int j ∧ SqT K H b xs ∧ xs[j]? = some v ∧ Q v) := by
  subst hK
  refine ⟨fun pins s σ H Q R E I h k => Subscript_ ?_⟩
  refine ha.run pins s σ H _ _ E I h fun u tk y ru hq => ?_
  refine hb.run pins _ σ H _ _ E (I.kept (t' := tk) fun _ _ q => q) hq fun w tk2 z rw' hq2 => ?_
  obtain ⟨b, xs, j, v, rfl, rfl, hsq, hv, q⟩ := hq2
  obtain rfl : u = Value.ref b := ru
  obtain ⟨t0, rfl⟩ := rw'
  obtain ⟨its, r, pl, hz⟩ := I.tuple hsq
  obtain ⟨w2, ew, r2⟩ := r.get hv
  have hl := r.length
  have hj : j < xs.length := (List.getElem?_eq_some_iff.mp hv).1
  have hn := line63
  exact subscriptTail_builtinR (s := { s with toks := tk2 }) (x := w2) pl.typeIs slot_tuple_getitem.lookup
    (getItem_tuple (j := j) (Q := fun r s' => r = w2 ∧ R r s') pl (by omega) (by omega) (by rw [List.size_toArray, ← hl]; exact seqIndex_of (by omega) (by omega)) (by simpa using ew) ⟨rfl, k w2 tk2 v r2 q⟩) (hs _ _)
theorem pu_ixL {K : Fg} (ha : PU X e t) (hb : PU X o t') (hs : PlainIx o) (hK : X.K = K := by rfl) : PU X (.Subscript e o pos) (fun σ H Q => t σ H fun y => t' σ H fun z => ∃ (b : Addr) (xs : List V) (j : Nat) (v : V), y = .ref b ∧ z = .int j ∧ SqL K H b xs ∧ xs[j]? = some v ∧ Q v) := by
  subst hK
  refine ⟨fun pins s σ H Q R E I h k => Subscript_ ?_⟩
  refine ha.run pins s σ H _ _ E I h fun u tk y ru hq => ?_
  refine hb.run pins _ σ H _ _ E (I.kept (t' := tk) fun _ _ q => q) hq fun w tk2 z rw' hq2 => ?_
  obtain ⟨b, xs, j, v, rfl, rfl, hsq, hv, q⟩ := hq2
  obtain rfl : u = Value.ref b := ru
  obtain ⟨t0, rfl⟩ := rw'
  obtain ⟨its, r, pl, hz⟩ := I.list hsq
  obtain ⟨w2, ew, r2⟩ := r.get hv
  have hl := r.length
  have hj : j < xs.length := (List.getElem?_eq_some_iff.mp hv).1
  have hn := line63
  exact item_listR (s := { s with toks := tk2 }) pl.isList (by omega) (by omega) (by simpa using ew) (k w2 tk2 v r2 q) (hs _ _)
end
/-- a number or a text, as data -/
inductive ScalD : V → PyData → Prop
  | int (i : Int) : ScalD (.int i) (.int i)
  | str (x : Str) : ScalD (.str x) (.str x)
theorem ScalD.reads {v : V} {d : PyData} (s : ScalD v d) {u : Value} (r : RelV v u) (h : Heap) : Reads h u d [] := by
  cases s with
  | int i =>
    obtain ⟨t, rfl⟩ := r
    exact .int i t
  | str x =>
    obtain ⟨t, rfl⟩ := r
    exact .str x t
def pairD (k : Int × PyData) : PyData := .tuple [.int k.1, k.2]
/-- the key lambda: made in X, its two parts read without a change -/
structure LamK (X : Cx) (L : List (Addr × Str)) (pre : Hp → Prop) (params : Arguments) (e1 e2 : Expr) (scope : Scope) (x : Str) (cs : List Str) (caps : List Nat) (t1 t2 : L2.St → Hp → (V → Prop) → Prop) : Prop where
  made : ∃ c P, X.env.code = .ref c ∧ (P, X.env.qual ++ "<lambda>") ∈ L ∧ ∀ pins σ H s, Inv X pins σ H s → pre H → PySem.W.CodeHd s.heap c P
  bm : BmIn X.base X.mg
  out : CellsOut X
  lam : LamQ X.env.scope scope [x]
  hcs : ∀ (j : Nat) (y : Str) (i : Nat), cs[j]? = some y → caps[j]? = some i → X.N[i]? = some y
  hl : cs.length = caps.length
  hfr : ∀ y ∈ cs, scope.names.lookup y = some .free
  def_ : defaultsOf params X.env = ([], [])
  bind : ∀ (us : List Value) (b : Expr) (q : Str) (cl : List (Str × Addr)) (pm cv ctv : Value), us.length = 1 → bindArgs (PySem.W.kla_fn "<lambda>" q params b scope cl pm cv ctv) ⟨us, []⟩ = pure ([x].zip us)
  plain : ∀ env : Env, starEach [e1, e2] env = [(false, eval e1 env), (false, eval e2 env)]
  run1 : ∀ (base : Heap) (A : Around) (outer : List Env) (s1 : Shared) (H1 : Hp) (E : XK) (f c' : Addr), PU (lamC X base ([x] ++ cs) A outer s1 H1 E scope f c') e1 t1
  run2 : ∀ (base : Heap) (A : Around) (outer : List Env) (s1 : Shared) (H1 : Hp) (E : XK) (f c' : Addr), PU (lamC X base ([x] ++ cs) A outer s1 H1 E scope f c') e2 t2
section
variable {X : Cx} {pins : List (Addr × Obj)} {σ : L2.St} {H : Hp} {s : Shared} {L : List (Addr × Str)} {pre : Hp → Prop} {params : Arguments} {e1 e2 : Expr} {scope : Scope} {x : Str} {cs : List Str} {caps : List Nat} {t1 t2 : L2.St → Hp → (V → Prop) → Prop} {xt : Nat} {tp : Pos}
theorem lam_key {f c' P' : Addr} {pm ctv : Value} {y : V} {yv : Value} {k : Int × PyData} (W : LamK X L pre params e1 e2 scope x cs caps t1 t2) (I : Inv X pins σ H s) (hr : Room 1 X.A)
    (hf : s.heap.get? f = some (PySem.W.kla_obj "<lambda>" (X.env.qual ++ "<lambda>") params (.Tuple [e1, e2] xt tp) scope (cloFrom X.env.cells scope.names []) pm c' ctv)) (hc : H c' = some (CodeN c' (X.env.qual ++ "<lambda>") P')) (ry : RelV y yv)
    (h1 : t1 (some y :: capS σ caps) H fun v => v = .int k.1) (h2 : t2 (some y :: capS σ caps) H fun v => ScalD v k.2) (h : Heap) (tk : Nat) (up : ∀ b o, s.heap.get? b = some o → h.get? b = some o) :
    wpAny (model X.prog X.w) X.A.in1.in1 (call (.ref f) [yv]) (PySem.W.KeyPure (pairD k) { s with heap := h, toks := tk }) (fun _ _ => False) { s with heap := h, toks := tk } := by
  have I' : Inv X pins σ H { s with heap := h, toks := tk } := I.kept up
  obtain ⟨⟨_, hrec⟩, _, _⟩ := I'.hok c' _ hc
  have e0 := env0_new I'
  have e0' : Env0 X.prog X.w X.K X.mg (baseN h H (frs X.stack)) X.A.in1.in1 X.stack { s with heap := h, toks := tk } H := ⟨e0.frames, e0.mod, e0.bs, e0.bsz, e0.funs, e0.frf, e0.hok, e0.bare⟩
  refine wpAny_call (codeAny_mono (R := fun r s' => ∃ v, r = .ok (.ret v) ∧ PySem.W.KeyPure (pairD k) { s with heap := h, toks := tk } v s') ?_ fun r s' hq => ?_)
  · refine PySem.W.kla_callFunE (by have := hr.dp; show X.A.depth < recursionLimit; omega) (up _ _ hf) rfl W.lam.co W.lam.gen rfl hrec ?_
    rw [W.bind [yv] _ _ _ _ _ _ rfl]
    refine wpAny_pure (wpAny_newFunctionEnv (fun y hy => W.lam.own y hy) (fun y hy => W.lam.par _ (List.of_mem_zip hy).1) (fun h₁ hns hsb => ⟨I'.nolimit.fresh _ hsb, ?_⟩) W.lam.kind)
    show codeAny _ _ (.expr _ (lamEnv X scope h.objs.size f c')) _ _
    have kp : ∀ b o, h.get? b = some o → h₁.get? b = some o := fun b o e => hsb.extBut b o (Nat.ne_of_lt (Heap.lt_size e)) (Heap.get?_push_of_some _ e)
    have J : Inv (lamC X (baseN h H (frs X.stack)) ([x] ++ cs) X.A.in1.in1 X.stack { s with heap := h, toks := tk } H E0 scope f c') [] ([y].map some ++ capS σ caps) H { s with heap := h₁, toks := tk + ([x].zip [yv]).length } :=
      lam_beginN I' W.out W.lam W.hcs W.hl W.hfr e0' hr.hd (.cons ry .nil) rfl hns kp
    refine PySem.W.kla_codeExpr (wpAny_Tuple_spliced ?_)
    rw [W.plain]
    refine Calls.spliced_cons ?_
    refine (W.run1 (baseN h H (frs X.stack)) X.A.in1.in1 X.stack { s with heap := h, toks := tk } H E0 f c').run [] _ _ H _ _ _ J h1 fun u1 tk1 v1 r1 q1 => ?_
    refine Calls.spliced_cons ?_
    refine (W.run2 (baseN h H (frs X.stack)) X.A.in1.in1 X.stack { s with heap := h, toks := tk } H E0 f c').run [] _ _ H _ _ _ (J.kept (t' := tk1) fun _ _ q => q) h2 fun u2 tk2 v2 r2 q2 => ?_
    refine Calls.spliced_nil ⟨by show 2 ≤ sizeLine; rw [sizeLine_eq]; omega, ?_⟩
    subst q1
    obtain ⟨w1, rfl⟩ := r1
    refine ⟨_, rfl, _, _, rfl, fun b o e => Heap.get?_push_of_some _ (kp b o e), ?_⟩
    exact .tuple (as := [] ++ ([] ++ [])) (Heap.get?_push_size _ rfl) rfl rfl (.cons (.int _ _) (.cons (q2.reads r2 _) .nil))
  · obtain ⟨v, rfl, hv⟩ := hq
    exact hv
/-- what is read of sorted(e, key=lambda x: (e1, e2)) -/
def tSortedL (K : Fg) (host : Str → Option Str) (L : List (Addr × Str)) (pre : Hp → Prop) (caps : List Nat) (t1 t2 : L2.St → Hp → (V → Prop) → Prop) (ta : TA) : TE := fun σ H Q => ta σ H fun vs H1 => ∃ (l : Addr) (ys : List V) (ks : List (Int × PyData)), vs = [.ref l] ∧ Tbn host L H1 ∧ pre H1 ∧
  (∀ z ∈ ks, ∃ v, ScalD v z.2) ∧ (∀ z ∈ ks, ∀ z' ∈ ks, PySem.W.alike z.2 z'.2 = true) ∧ ∀ H2, ExtN H1 H2 → Tbn host L H2 → SqL K H2 l ys ∧ Paired (fun y k => t1 (some y :: capS σ caps) H2 (fun v => v = .int k.1) ∧ t2 (some y :: capS σ caps) H2 (fun v => ScalD v k.2)) ys ks ∧
  ∀ p, H2 p = none → Q (.ref p) (upd H2 p (.lst (((ys.zip ks).mergeSort (PySem.W.dataLe false fun b => pairD b.2)).map (·.1))))
theorem zip_eachG {R : V → Int × PyData → Prop} : ∀ {ys : List V} {ks : List (Int × PyData)} {its : List Value}, Vals ys its → Paired R ys ks → PySem.W.EachIs (fun (v : Value) (b : V × (Int × PyData)) => RelV b.1 v ∧ R b.1 b.2) its (ys.zip ks)
  | _, _, _, .nil, .nil => .nil
  | _, _, _, .cons r rs, .cons k ks => .cons ⟨r, k⟩ (zip_eachG rs ks)
theorem vals_eachG {R : V → Int × PyData → Prop} : ∀ {out : List Value} {bs : List (V × (Int × PyData))}, PySem.W.EachIs (fun (v : Value) (b : V × (Int × PyData)) => RelV b.1 v ∧ R b.1 b.2) out bs → Vals (bs.map (·.1)) out
  | _, _, .nil => .nil
  | _, _, .cons h t => .cons h.1 (vals_eachG t)
theorem mem_zip_snd {α β : Type} : ∀ {l : List α} {r : List β} {b : α × β}, b ∈ l.zip r → b.2 ∈ r := fun {l r b} h => (List.of_mem_zip (a := b.1) (b := b.2) h).2
theorem depth_pair (k : Int × PyData) {v : V} (s : ScalD v k.2) : (pairD k).depth ≤ 50 := by
  obtain ⟨i, d⟩ := k
  cases s <;> simp [pairD, PyData.depth, PyData.depthAll]
theorem pe_sortedL {host : Str → Option Str} {e : Expr} {ta : TA} {p pos kpos lpos : Pos} (W : LamK X L pre params e1 e2 scope x cs caps t1 t2) (hr : Room 1 X.A) (hg : Gl X "sorted") (hm : X.mg "sorted" = none) (ha : PA X [e] ta)
    (hv : bootBuiltins "sorted" = some (.builtin "sorted")) (he : backTo pos (starEach [e] X.env) = (false, eval e X.env) :: backTo pos (starEach [] X.env) := by rfl) (hpl : (backTo pos (starEach [e] X.env)).any (·.1) = false := by rfl) {K : Fg} (hK : X.K = K := by rfl) :
    PE X (.Call (.Name "sorted" p) [e] [⟨some "key", .Lambda params (.Tuple [e1, e2] xt tp) scope lpos, kpos⟩] pos) (tSortedL K host L pre caps t1 t2 ta) := by
  subst hK
  refine ⟨fun pins s σ H Q I h => ?_⟩
  refine wpAny_Call_Name_kw (ld_blt I hg hm hv ?_ (by decide) (by decide))
  obtain ⟨c, P, hcode, hmL, hhd⟩ := W.made
  obtain ⟨P0, hB⟩ := W.bm
  refine PyProof.Rows.callWith_kw (thn (ha.run pos pins s σ H _ I h) fun us s1 ⟨vs, H1, I1, r1, l, ys, ks, evs, hT, hp, hsc, hal, q1⟩ => ?_) he hpl rfl rfl
  subst evs
  show wpAny _ _ (evalAll [(do let v ← eval (.Lambda params (.Tuple [e1, e2] xt tp) scope lpos) X.env; standAt pos; pure v)]) _ _ s1
  refine wpAny_evalAll_cons (wpAny_bind (lam_mk I1 hcode (hhd _ _ _ _ I1 hp) hB hmL hT W.def_ (fun y hy e => (W.lam.free y hy e).elim (fun z => I1.ok.has _ (.inl z)) fun z => I1.ok.has _ (.inr z)) fun f c' P' pm ctv H2 s2 I2 x1 x2 _ hf hf0 hf1 hc => wpAny_bind (wpAny_standAt (wpAny_pure (wpAny_evalAll_nil ?_)))))
  obtain ⟨hs, hk, q⟩ := q1 H2 x1 x2
  obtain rfl := Vals.ref1 r1
  obtain ⟨its, rv, hl, hz⟩ := I2.list hs
  have ln : ys.length = ks.length := Paired.length hk
  have lz : (ys.zip ks).length = ys.length := by rw [List.length_zip, ← ln, Nat.min_self]
  show wpAny _ _ (call (.builtin "sorted") [.ref l] [(Str.ofString "key", .ref f)]) _ _ s2
  refine PySem.W.sorted_key_data (β := V × (Int × PyData)) (b := false) (R := fun v b => RelV b.1 v ∧ (t1 (some b.1 :: capS σ caps) H2 (fun v => v = .int b.2.1) ∧ t2 (some b.1 :: capS σ caps) H2 (fun v => ScalD v b.2.2))) (vs := its) (bs := ys.zip ks) (fun b => pairD b.2) hl.isList (zip_eachG rv hk)
    (fun d hd d' hd' => ?_) (.inl fun d hd => ?_) (by rw [lz]; exact hz) (fun b hb => ?_) (PyProof.Rows.ksk_s1 _ _) (fun _ => PyProof.Rows.ksk_l1 _ _) (fun _ => PyProof.Rows.ksk_t1 _ _) (fun v b hR _ h tk up => lam_key W I2 hr hf hc hR.1 hR.2.1 hR.2.2 h tk up) fun out c h' tk up hn hD hlen he => ?_
  · obtain ⟨b, hb, rfl⟩ := List.mem_map.mp hd
    obtain ⟨b', hb', rfl⟩ := List.mem_map.mp hd'
    have := hal _ (mem_zip_snd hb) _ (mem_zip_snd hb')
    simp [pairD, PySem.W.alike, PySem.W.alikeAll, this]
  · obtain ⟨b, hb, rfl⟩ := List.mem_map.mp hd
    exact ⟨_, _, rfl⟩
  · obtain ⟨v0, s0⟩ := hsc _ (mem_zip_snd hb)
    have z := depth_pair b.2 s0
    have := hr.un
    show X.A.units + 2 + (pairD b.2).depth < cLine
    omega
  · have hl2 : (((ys.zip ks).mergeSort (PySem.W.dataLe false fun b => pairD b.2)).map (·.1)).length ≤ sizeLine := by
      rw [List.length_map, List.length_mergeSort, lz]
      exact hz
    exact ⟨.ref _, upd H2 (s2.heap.objs.size + 1) (.lst (((ys.zip ks).mergeSort (PySem.W.dataLe false fun b => pairD b.2)).map (·.1))), I2.laid up (Nat.le_succ _) ⟨hl2, out, c, vals_eachG (R := fun y k => t1 (some y :: capS σ caps) H2 (fun v => v = .int k.1) ∧ t2 (some y :: capS σ caps) H2 (fun v => ScalD v k.2)) he, hD⟩, rfl, q _ (I2.hok.fresh (Nat.le_succ _))⟩
end
end Tw
namespace K09
open PySem PySem.Spec PyProof.Rows L2 He Tw
/-! ### sorting by putting in from the right -/
section
variable {β : Type} (le : β → β → Bool)
def insL (a : β) : List β → List β
  | [] => [a]
  | b :: l => if le a b then a :: b :: l else b :: insL a l
def insR (x : β) : List β → List β
  | [] => [x]
  | b :: l => if le b x then b :: insR x l else x :: b :: l
variable {le}
theorem ins_comm (tr : ∀ a b c, le a b = true → le b c = true → le a c = true) (tot : ∀ a b, (le a b || le b a) = true) (a x : β) : ∀ l, insL le a (insR le x l) = insR le x (insL le a l)
  | [] => by
    unfold insL insR
    by_cases h : le a x = true
    · simp [insL, insR, h]
    · simp [insL, insR, h]
  | b :: l => by
    have ih := ins_comm tr tot a x l
    have t1 := tr a b x
    have t2 := tr a x b
    have t3 := tot x b
    by_cases h1 : le b x = true <;> by_cases h2 : le a b = true <;> by_cases h3 : le a x = true <;> by_cases h4 : le x b = true <;> simp_all [insL, insR]
theorem fold_ins (tr : ∀ a b c, le a b = true → le b c = true → le a c = true) (tot : ∀ a b, (le a b || le b a) = true) (a : β) : ∀ l m : List β, l.foldl (fun acc x => insR le x acc) (insL le a m) = insL le a (l.foldl (fun acc x => insR le x acc) m)
  | [], m => rfl
  | x :: l, m => by
    rw [List.foldl_cons, List.foldl_cons, ← ins_comm tr tot, fold_ins tr tot]
theorem insL_at {a : β} : ∀ {l₁ l₂ : List β}, (∀ b ∈ l₁, (!le a b) = true) → (∀ b ∈ l₂, le a b = true) → insL le a (l₁ ++ l₂) = l₁ ++ a :: l₂
  | [], [], _, _ => rfl
  | [], b :: l₂, _, h => by
    show insL le a (b :: l₂) = a :: b :: l₂
    unfold insL
    rw [if_pos (h b List.mem_cons_self)]
  | c :: l₁, l₂, h1, h2 => by
    have hc := h1 c List.mem_cons_self
    show insL le a (c :: (l₁ ++ l₂)) = c :: (l₁ ++ a :: l₂)
    unfold insL
    rw [if_neg (by simpa using hc), insL_at (fun b hb => h1 b (List.mem_cons_of_mem _ hb)) h2]
theorem fold_sort (tr : ∀ a b c, le a b = true → le b c = true → le a c = true) (tot : ∀ a b, (le a b || le b a) = true) : ∀ l : List β, l.foldl (fun acc x => insR le x acc) [] = l.mergeSort le
  | [] => by simp
  | a :: l => by
    obtain ⟨l₁, l₂, e1, e2, h⟩ := List.mergeSort_cons tr tot a l
    have pw := List.pairwise_mergeSort tr tot (a :: l)
    rw [e1] at pw ⊢
    have h2 : ∀ b ∈ l₂, le a b = true := (List.pairwise_cons.mp (List.pairwise_append.mp pw).2.1).1
    rw [List.foldl_cons]
    show l.foldl (fun acc x => insR le x acc) (insL le a []) = _
    rw [fold_ins tr tot, fold_sort tr tot l, e2, insL_at h h2]
theorem insR_at {x : β} : ∀ {A B : List β}, (∀ b ∈ A, le b x = true) → (∀ b ∈ B, le b x = false) → insR le x (A ++ B) = A ++ x :: B
  | [], [], _, _ => rfl
  | [], b :: B, _, h => by
    show insR le x (b :: B) = x :: b :: B
    unfold insR
    rw [if_neg (by rw [h b List.mem_cons_self]; decide)]
  | c :: A, B, h1, h2 => by
    show insR le x (c :: (A ++ B)) = c :: (A ++ x :: B)
    unfold insR
    rw [if_pos (h1 c List.mem_cons_self), insR_at (fun b hb => h1 b (List.mem_cons_of_mem _ hb)) h2]
/-- where le to x is a beginning -/
theorem split_at (tr : ∀ a b c, le a b = true → le b c = true → le a c = true) (x : β) : ∀ {l : List β}, l.Pairwise (fun a b => le a b = true) → ∃ A B, l = A ++ B ∧ (∀ b ∈ A, le b x = true) ∧ ∀ b ∈ B, le b x = false
  | [], _ => ⟨[], [], rfl, (fun _ h => nomatch h), fun _ h => nomatch h⟩
  | b :: l, h => by
    obtain ⟨h1, h2⟩ := List.pairwise_cons.mp h
    by_cases hb : le b x = true
    · obtain ⟨A, B, e, a1, a2⟩ := split_at tr x h2
      refine ⟨b :: A, B, by rw [e]; rfl, fun c hc => ?_, a2⟩
      rcases List.mem_cons.mp hc with rfl | hc
      · exact hb
      · exact a1 c hc
    · refine ⟨[], b :: l, rfl, (fun _ h => nomatch h), fun c hc => ?_⟩
      rcases List.mem_cons.mp hc with rfl | hc
      · simpa using hb
      · cases q : le c x with
        | false => rfl
        | true => exact absurd (tr b c x (h1 c hc) q) hb
end
/-! ### the order of the answers -/
def lea (w : Nat) (x y : Str) : Bool := !ltV (ansV w y) (ansV w x)
theorem lea_total (w : Nat) (x y : Str) : (lea w x y || lea w y x) = true := by
  have key : ltV (ansV w y) (ansV w x) = false ∨ ltV (ansV w x) (ansV w y) = false := by
    rcases ans_two w y x with ⟨a, b, e1, e2⟩ | ⟨a, b, e1, e2⟩
    · rw [e1, e2]
      simp only [ltV, decide_eq_false_iff_not]
      omega
    · rw [e1, e2]
      simp only [ltV, decide_eq_false_iff_not]
      rcases List.le_total a.cps.toList b.cps.toList with h | h
      · exact .inr (List.not_lt.mpr h)
      · exact .inl (List.not_lt.mpr h)
  unfold lea
  rcases key with h | h <;> rw [h] <;> simp
theorem ans_three (i : Nat) (z u v : Str) : (∃ a b c, ansV i z = .int a ∧ ansV i u = .int b ∧ ansV i v = .int c) ∨ ∃ a b c, ansV i z = .str a ∧ ansV i u = .str b ∧ ansV i v = .str c := by
  unfold ansV
  match i with
  | 0 => exact .inr ⟨_, _, _, rfl, rfl, rfl⟩
  | 1 => exact .inl ⟨_, _, _, rfl, rfl, rfl⟩
  | 2 => exact .inl ⟨_, _, _, rfl, rfl, rfl⟩
  | _ + 3 => exact .inr ⟨_, _, _, rfl, rfl, rfl⟩
theorem lea_trans (w : Nat) (x y z : Str) (h1 : lea w x y = true) (h2 : lea w y z = true) : lea w x z = true := by
  have h1 : ltV (ansV w y) (ansV w x) = false := by
    unfold lea at h1
    simpa using h1
  have h2 : ltV (ansV w z) (ansV w y) = false := by
    unfold lea at h2
    simpa using h2
  have key : ltV (ansV w z) (ansV w x) = false := by
    rcases ans_three w x y z with ⟨a, b, c, e1, e2, e3⟩ | ⟨a, b, c, e1, e2, e3⟩
    · rw [e2, e1] at h1
      rw [e3, e2] at h2
      rw [e3, e1]
      simp only [ltV, decide_eq_false_iff_not] at h1 h2 ⊢
      omega
    · rw [e2, e1] at h1
      rw [e3, e2] at h2
      rw [e3, e1]
      simp only [ltV, decide_eq_false_iff_not] at h1 h2 ⊢
      exact List.not_lt.mpr (List.le_trans (List.not_lt.mp h1) (List.not_lt.mp h2))
  unfold lea
  rw [key]
  rfl
/-- the order of the pairs -/
def leP (w : Nat) (a b : Int × Str) : Bool := decide (a.1 < b.1) || (decide (a.1 = b.1) && lea w a.2 b.2)
theorem leP_total (w : Nat) (a b : Int × Str) : (leP w a b || leP w b a) = true := by
  unfold leP
  have t := lea_total w a.2 b.2
  by_cases h1 : a.1 < b.1
  · simp [h1]
  · by_cases h2 : b.1 < a.1
    · simp [h2]
    · have e : a.1 = b.1 := by omega
      rw [Bool.or_eq_true] at t
      rcases t with t | t <;> simp [e, t]
theorem leP_trans (w : Nat) (a b c : Int × Str) (h1 : leP w a b = true) (h2 : leP w b c = true) : leP w a c = true := by
  unfold leP at *
  simp only [Bool.or_eq_true, Bool.and_eq_true, decide_eq_true_eq] at *
  rcases h1 with h1 | ⟨h1, h1'⟩ <;> rcases h2 with h2 | ⟨h2, h2'⟩
  · exact .inl (by omega)
  · exact .inl (by omega)
  · exact .inl (by omega)
  · exact .inr ⟨by omega, lea_trans w _ _ _ h1' h2'⟩
theorem step_le {w : Nat} {q x : Int × Str} (h : x.1 ≤ q.1) : stepB w q x = !leP w x q := by
  unfold stepB leP lea
  by_cases e : x.1 = q.1
  · have n : ¬ x.1 < q.1 := by omega
    simp [e]
  · have n : x.1 < q.1 := by omega
    simp [e, n]
theorem placeN_at {w : Nat} {q : Int × Str} {A B : List (Int × Str)} (ha : ∀ x ∈ A, stepB w q x = false) (hb : ∀ x ∈ B, stepB w q x = true) : ∀ n, n ≤ (A ++ B).length → A.length ≤ n → placeN w q (A ++ B) n = A.length
  | 0, _, h => by
    unfold placeN
    omega
  | n + 1, h1, h2 => by
    rw [List.length_append] at h1
    unfold placeN
    by_cases e : A.length = n + 1
    · have hn : n < A.length := by omega
      rw [List.getElem?_append_left hn, List.getElem?_eq_getElem hn]
      dsimp only
      rw [if_neg (by rw [ha _ (List.getElem_mem hn)]; decide)]
      exact e.symm
    · have hn : A.length ≤ n := by omega
      have hk : n - A.length < B.length := by omega
      rw [List.getElem?_append_right hn, List.getElem?_eq_getElem hk]
      dsimp only
      rw [if_pos (hb _ (List.getElem_mem hk))]
      exact placeN_at ha hb n (by rw [List.length_append]; omega) hn
theorem putP_ins {w : Nat} {q : Int × Str} {l : List (Int × Str)} (hs : l.Pairwise (fun a b => leP w a b = true)) (hq : ∀ x ∈ l, x.1 ≤ q.1) : putP w q l = insR (leP w) q l := by
  obtain ⟨A, B, rfl, a1, a2⟩ := split_at (leP_trans w) q hs
  have hA : ∀ x ∈ A, stepB w q x = false := fun x hx => by
    rw [step_le (hq x (List.mem_append_left _ hx)), a1 x hx]
    rfl
  have hB : ∀ x ∈ B, stepB w q x = true := fun x hx => by
    rw [step_le (hq x (List.mem_append_right _ hx)), a2 x hx]
    rfl
  unfold putP
  rw [placeN_at hA hB _ (Nat.le_refl _) (by rw [List.length_append]; omega), insR_at a1 a2]
  simp
/-- the ranks ascend -/
def AscP (ps : List (Int × Str)) : Prop := ps.Pairwise fun a b => a.1 ≤ b.1
theorem settledL_sort (w : Nat) {ps : List (Int × Str)} (h : AscP ps) : settledL w ps = ps.mergeSort (leP w) := by
  rw [← fold_sort (leP_trans w) (leP_total w)]
  unfold settledL
  -- along the list
  have go : ∀ (l m : List (Int × Str)), (m ++ l).Pairwise (fun a b => a.1 ≤ b.1) → l.foldl (fun acc q => putP w q acc) (m.mergeSort (leP w)) = l.foldl (fun acc x => insR (leP w) x acc) (m.mergeSort (leP w)) := fun l => by
    induction l with
    | nil => intro m _; rfl
    | cons q l ih =>
      intro m hm
      have e : putP w q (m.mergeSort (leP w)) = insR (leP w) q (m.mergeSort (leP w)) := by
        refine putP_ins (List.pairwise_mergeSort (leP_trans w) (leP_total w) m) fun x hx => ?_
        have hx' : x ∈ m := (List.mergeSort_perm m (leP w)).mem_iff.mp hx
        exact (List.pairwise_append.mp hm).2.2 x hx' q List.mem_cons_self
      have e2 : insR (leP w) q (m.mergeSort (leP w)) = (m ++ [q]).mergeSort (leP w) := by
        rw [← fold_sort (leP_trans w) (leP_total w), ← fold_sort (leP_trans w) (leP_total w), List.foldl_append]
        rfl
      rw [List.foldl_cons, List.foldl_cons, e, e2]
      refine ih (m ++ [q]) ?_
      rw [List.append_assoc]
      exact hm
  have := go ps [] h
  simpa using this
theorem up_asc {ps : List (Int × Str)} {n : Nat} (h : Up ps n) (hn : ps.length ≤ n + 1) : AscP ps := by
  have step : ∀ (d i : Nat) (a b : Int × Str), ps[i]? = some a → ps[i + d]? = some b → a.1 ≤ b.1 := fun d => by
    induction d with
    | zero =>
      intro i a b h1 h2
      rw [Nat.add_zero, h1] at h2
      cases h2
      exact Int.le_refl _
    | succ d ih =>
      intro i a b h1 h2
      have hl : i + d + 1 < ps.length := (List.getElem?_eq_some_iff.mp h2).1
      have h3 : ps[i + d]? = some ps[i + d] := List.getElem?_eq_getElem (by omega)
      exact Int.le_trans (ih i a _ h1 h3) (h (i + d) _ b (by omega) h3 h2)
  unfold AscP
  rw [List.pairwise_iff_getElem]
  intro i j hi hj hij
  refine step (j - i) i _ _ (List.getElem?_eq_getElem hi) ?_
  rw [show i + (j - i) = j by omega]
  exact List.getElem?_eq_getElem hj
end K09
/-! Tw: [e for y in xs] where e may raise: the error leaves the comprehension as it leaves the def. -/
namespace Tw
open PySem PySem.Spec PyProof.Rows L2 He
/-- the end of a comprehension that runs in cenv -/
def postX (M : Model) (A : Around) (E : Value → Shared → Prop) (Q : Value → Shared → Prop) (acc : Value) (cenv : Env) (r : Result) (s' : Shared) : Prop :=
  match r with
  | .ok _ => ∃ m, s'.heap.Ns cenv.locals m ∧ ∀ h', Heap.SameBut cenv.locals s'.heap h' → Q acc { s' with heap := h' }
  | .error x => ∃ m, s'.heap.Ns cenv.locals m ∧ ∀ h', Heap.SameBut cenv.locals s'.heap h' → wpAny M A (PySem.passOn "comprehension.variables-let-go" x cenv : Sem Value) (fun _ _ => False) E { s' with heap := h' }
theorem comp_raise {M : Model} {A : Around} {E : Value → Shared → Prop} {s : Shared} {env : Env} {e : Expr} {scope : Scope} {pos : Pos} {newAcc first : Sem Value} {c0 : Comprehension} {cs : List Comprehension} {cl : List (Str × Addr)} {Q : Value → Shared → Prop}
    (hcl : clausesOf e = c0 :: cs) (hs : ∀ x, foldedSetIterable c0.iter env x = pure x) (hclos : closureFor scope env = pure cl) (hk : scope.kind = .function) (hn : ∀ x ∈ scope.names, x.2 = .local → scope.names.lookup x.1 = some .local)
    (h : wpAny M A first (fun x s₁ => wpAny M A (pyIter x) (fun it s₂ => wpAny M A newAcc (fun acc s₃ => wpAny M A (newFunctionEnv scope env.globals cl [] env.qual none .none (some env)) (fun cenv s₄ =>
        codeAny M A (.compStart e 0 it acc { cenv with scope := relabel scope env }) (postX M A E Q acc { cenv with scope := relabel scope env }) s₄) E s₃) E s₂) E s₁) E s) :
    wpAny M A (comprehension e scope env pos newAcc false first none) Q E s := by
  unfold comprehension
  rw [hclos, hcl]
  refine wpAny_bind (wpAny_mono h (fun x s₁ h₁ => ?_) fun _ _ z => z)
  refine wpAny_bind (wpAny_standAt (wpAny_bind (wpAny_of_eq (hs x) (wpAny_bind (wpAny_holding (wpAny_mono h₁ (fun it s₂ h₂ => ?_) fun _ _ z => z))))))
  refine wpAny_standIf (wpAny_bind (wpAny_mono h₂ (fun acc s₃ h₃ => wpAny_bind (wpAny_pure (wpAny_bind (wpAny_mono h₃ (fun cenv s₄ h₄ => ?_) fun _ _ z => z)))) fun _ _ z => z))
  dsimp only
  have hv : ∀ x ∈ (scope.names.filter fun x => (x.2 == .local || x.2 == .cell) && x.1 != (".0" : Str)).reverse, x.2 = .local → Env.kindOf { cenv with scope := relabel scope env } x.1 = some .local := fun x hx z =>
    lookup_relabel_local (hn x (List.mem_filter.mp (List.mem_reverse.mp hx)).1 z)
  refine wpAny_holding (wpAny_bind (wpAny_attempt (wpAny_holding (wpAny_run (codeAny_mono h₄ fun r s' hr => ?_)))))
  cases r with
  | ok f =>
    obtain ⟨m, hm, hr⟩ := hr
    exact wpAny_bind (wpAny_holding (wpAny_comp_letGo (cenv := { cenv with scope := relabel scope env }) hk _ s' m hv hm fun h' m' _ hs' => wpAny_pure (hr h' hs')))
  | error x =>
    obtain ⟨m, hm, hr⟩ := hr
    exact wpAny_bind (wpAny_holding (wpAny_comp_letGo (cenv := { cenv with scope := relabel scope env }) hk _ s' m hv hm fun h' m' _ hs' => wpAny_mono (hr h' hs') (fun _ _ z => z.elim) fun _ _ z => z))
theorem note_frame {e : Value} {a b : Env} (h : a.frame = b.frame) : noteFrame e a = noteFrame e b := by
  unfold noteFrame PySem.frameOf
  rw [h]
theorem frames_at {h h' base base' : Heap} : ∀ {l : List Env}, h.FunFrames base l → (∀ b ∈ frs l, base'.get? b = none ∧ ∀ o, h.get? b = some o → h'.get? b = some o) → h'.FunFrames base' l
  | [], _, _ => trivial
  | env :: rest, ⟨k, ⟨L, o, e1, e2, e3, e4⟩, r⟩, hk => by
    have hL : L ∈ frs (env :: rest) := List.mem_filterMap.mpr ⟨env, List.mem_cons_self, e1⟩
    refine ⟨k, ⟨L, o, e1, (hk L hL).1, (hk L hL).2 o e3, e4⟩, frames_at r fun b hb => hk b ?_⟩
    obtain ⟨e, he, q⟩ := List.mem_filterMap.mp hb
    exact List.mem_filterMap.mpr ⟨e, List.mem_cons_of_mem _ he, q⟩
section
variable {X : Cx} {pins : List (Addr × Obj)} {σ : L2.St} {H : Hp} {W : WX} {E : XK}
/-- a call's error within the block at ce is an error of the def -/
theorem block_exc {ce : Env} {s3 se s' : Shared} {H3 He : Hp} {u : Value} {fp : List Addr} (hs : X.stack = X.env :: X.outer) (hf : X.env.frame = some X.env.locals) (hcf : ce.frame = X.env.frame) (tk : Takes X W) (hW : ∀ cls d σ H, E cls d H → W cls d σ H) (I3 : Inv X pins σ H3 s3)
    (hC : s3.heap.objs.size ≤ ce.locals) (f3 : ∀ b ∈ fp, FpOk X pins H3 b) (hos : se.os = s3.os) (hun : Un (frs X.stack) fp H3 He s3.heap se.heap) (hok : HOk X.prog X.w He se.heap) (hba : AllBare se.gens) (hns : ∃ m, se.heap.Ns ce.locals m) (hfree : He ce.locals = none)
    (c : L2.CX X.prog X.w X.stack He se E u s') (QQ : Value → Shared → Prop) (acc : Value) :
    notedBy (model X.prog X.w) X.A ce (fun e s'' => postX (model X.prog X.w) X.A X.xe QQ acc ce (.error e) s'') u s' := by
  obtain ⟨a, B, H', cls, d, rfl, fl, hokB, ub, na, os, ag, hE⟩ := c
  have hfr : X.A.frames = some (X.env :: X.outer) := by rw [I3.ok.frames, hs]
  obtain ⟨m, oC, es, ep, gC, dC, rC⟩ := hns
  have nfr : ce.locals ∉ frs X.stack := fun hb => by
    obtain ⟨_, o, e, _⟩ := I3.stack.mem hb
    exact Nat.lt_irrefl _ (Nat.lt_of_lt_of_le (Heap.lt_size e) hC)
  have BC : B.get? ce.locals = some oC := ub.keep _ _ gC hfree nfr
  have H'C : H' ce.locals = none := ub.free _ _ gC hfree
  show wpAny _ _ (noteFrame (.ref a) ce) _ _ _
  rw [note_frame hcf]
  rw [hs] at fl
  refine HandSPX.looks_onZ Zc.steady hfr hf fl fun h1 hh1 up1 => ?_
  obtain ⟨k1, k2, k3, oe, vs, T, oT, ts, he, hz, hd, hv1, hnT, hTe, hT, hdT, ht3⟩ := hh1
  have C1 : h1.get? ce.locals = some oC := k1 _ _ BC
  refine ⟨m, ⟨oC, es, ep, C1, dC, rC⟩, fun h2 sb => ?_⟩
  have aC : a ≠ ce.locals := fun z => by
    rw [z, BC] at k2
    cases k2
  have TC : T ≠ ce.locals := fun z => by
    rw [z, BC] at hnT
    cases hnT
  have same : ∀ b, b ≠ ce.locals → h2.get? b = h1.get? b := fun b hb => sb.2 b hb
  -- the ground without the block's names
  obtain ⟨B', b1, b2⟩ := restrict B fun b => !decide (b = ce.locals)
  have inB : ∀ b o, B'.get? b = some o → B.get? b = some o ∧ b ≠ ce.locals := fun b o e => by
    by_cases z : b = ce.locals
    · rw [b2 b (by simp [z])] at e
      cases e
    · rw [b1 b (by simp [z])] at e
      exact ⟨e, z⟩
  have ofB : ∀ b o, b ≠ ce.locals → B.get? b = some o → B'.get? b = some o := fun b o z e => by
    rw [b1 b (by simp [z])]
    exact e
  have noB : ∀ b, B.get? b = none → B'.get? b = none := fun b e => by
    cases q : B'.get? b with
    | none => rfl
    | some o =>
      rw [(inB b o q).1] at e
      cases e
  have nfrs : ∀ b ∈ frs (X.env :: X.outer), b ≠ ce.locals := fun b hb z => nfr (by rw [hs, ← z]; exact hb)
  have ff2 : h2.FunFrames B' (X.env :: X.outer) := frames_at k3 fun b hb => ⟨noB b (k3.mem hb).1, fun o e => (same b (nfrs b hb)).trans e⟩
  have hh2 : HandSPX.HeldZ B' (X.env :: X.outer) a (Zc cls d) X.env.locals h2 := by
    refine ⟨fun b o e => ?_, noB a k2, ff2, oe, vs, T, oT, ts, (same a aC).trans he, hz, hd, hv1, noB T hnT, hTe, (same T TC).trans hT, hdT, ht3⟩
    obtain ⟨e1, n⟩ := inB b o e
    exact (same b n).trans (k1 b o e1)
  -- the state without the error and the block's names
  obtain ⟨G, g1, g2⟩ := restrict s'.heap fun b => (B'.get? b).isSome || decide (b ∈ frs X.stack)
  have st : B.StaysIn s'.heap := fl.1
  have gB : ∀ b o, B'.get? b = some o → G.get? b = some o := fun b o e => by
    rw [g1 b (by simp [e])]
    exact st b o (inB b o e).1
  have gF : ∀ b, b ∈ frs X.stack → G.get? b = s'.heap.get? b := fun b hb => g1 b (by simp [hb])
  have og : ∀ b o, G.get? b = some o → s'.heap.get? b = some o ∧ ((B'.get? b).isSome = true ∨ b ∈ frs X.stack) := fun b o e => by
    cases q : ((B'.get? b).isSome || decide (b ∈ frs X.stack)) with
    | false =>
      rw [g2 b q] at e
      cases e
    | true =>
      rw [g1 b q] at e
      exact ⟨e, by simpa [Bool.or_eq_true] using q⟩
  have ogC : ∀ b o, G.get? b = some o → b ≠ ce.locals := fun b o e => by
    rcases (og b o e).2 with h | h
    · obtain ⟨o', q⟩ := Option.isSome_iff_exists.mp h
      exact (inB b o' q).2
    · exact fun z => nfr (z ▸ h)
  have old : ∀ b o, s3.heap.get? b = some o → b ≠ ce.locals := fun b o e => Nat.ne_of_lt (Nat.lt_of_lt_of_le (Heap.lt_size e) hC)
  have nfp : ∀ b ∈ fp, b ∉ frs X.stack := fun b hb z => (List.mem_cons.mp (I3.stkSub b z)).elim (f3 b hb).2.1 (f3 b hb).2.2.1
  have unF : Un (frs X.stack) fp H3 H' s3.heap G := by
    refine ⟨fun b o e n nf nx => ?_, fun b o e n hb nx => ?_, fun b o e n nx => ?_, fun b o e nx => ?_, fun b xs e => ub.tups b xs (hun.tups b xs e), fun b o u e => ub.frzs b o u (hun.frzs b o u e), fun b ps e => ?_⟩
    · exact gB b o (ofB b o (old b o e) (ub.keep b o (hun.keep b o e n nf nx) (hun.free b o e n nx) nf))
    · obtain ⟨sl, e1⟩ := hun.slot b o e n hb nx
      obtain ⟨sl2, e2⟩ := ub.slot b _ e1 hb
      exact ⟨sl2, by rw [gF b hb]; exact e2⟩
    · obtain ⟨o', e1⟩ := hun.there b o e nx
      exact ub.free b o' e1 (hun.free b o e n nx)
    · obtain ⟨o', e1⟩ := hun.there b o e nx
      by_cases hb : b ∈ frs X.stack
      · obtain ⟨sl, q⟩ := ub.slot b o' e1 hb
        exact ⟨_, by rw [gF b hb]; exact q⟩
      · obtain ⟨o2, q⟩ := ub.there b o' e1 hb
        exact ⟨o2, gB b o2 (ofB b o2 (old b o e) q)⟩
    · obtain ⟨m1, e1⟩ := hun.tbls b ps e
      obtain ⟨m2, e2⟩ := ub.tbls b _ e1
      exact ⟨m1 ++ m2, by rw [e2, Array.append_assoc]⟩
  have hokG : HOk X.prog X.w H' G := fun b o e => by
    have x := hokB b o e
    have nC : ∀ c, (c = b ∨ H' c = some (.own b)) → c ≠ ce.locals := fun c hc z => by
      rcases hc with hc | hc
      · rw [← hc, z, H'C] at e
        cases e
      · rw [z, H'C] at hc
        cases hc
    exact x.stay (fun c v hc q => gB c v (ofB c v (nC c hc) q)) (fun _ q => q) fun _ _ q => q
  have IG : Inv X pins σ H' { s3 with heap := G, gens := s'.gens, drawn := s'.drawn, toks := s'.toks } :=
    I3.call (ch := fp) unF hokG ag fun b hb => ⟨(f3 b hb).2.2.2.1, (f3 b hb).2.1, (f3 b hb).2.2.2.2.1, (f3 b hb).2.2.2.2.2⟩
  unfold PySem.passOn
  refine wpAny_bind (wpAny_field (s := { s' with heap := h2 }) ((same a aC).trans he) hd hv1 ?_)
  rw [if_neg (show ¬ ((Value.ref T == Value.none) = true) from by simp)]
  have goOn : wpAny (model X.prog X.w) X.A (setFlight (.ref a) ce.frame) (fun _ s7 => wpAny (model X.prog X.w) X.A (throw (.ref a) : Sem Value) (fun _ _ => False) X.xe s7) X.xe { s' with heap := h2 } := by
    rw [hcf, hf]
    refine HandSPX.setFlight_onZ (s := { s' with heap := h2 }) hh2 fun h7 hh7 up7 => wpAny_throw (tk _ _ ⟨a, B', _, pins, σ, H', cls, d, rfl, IG, fun b o e hb => ?_, fun b o e nf => ?_, .inr (.inr ?_), na, os.trans hos, ag, hW _ _ _ _ hE⟩)
    · rcases (og b o e).2 with h | h
      · obtain ⟨o', q⟩ := Option.isSome_iff_exists.mp h
        have z := st b o' (inB b o' q).1
        rw [(og b o e).1] at z
        cases z
        exact q
      · exact absurd h hb
    · have nC := ogC b o e
      obtain ⟨sl, q⟩ := up1 b o (og b o e).1 nf
      obtain ⟨sl2, q2⟩ := up7 b { o with slots := sl } ((same b nC).trans q) (fun vs z => nf vs z)
      exact ⟨sl2, q2⟩
    · rw [hs]
      exact hh7
  first
    | exact wpAny_bind (wpAny_pure (wpAny_bind goOn))
    | exact wpAny_bind goOn
/-- [elt for target in iter], elt may raise what E takes -/
theorem pe_lcX {elt tg iter : Expr} {scope : Scope} {own : List (Str × Nat)} {pos : Pos} {wi : TI} {g : TG} {te : TE} (hs : X.stack = X.env :: X.outer) (hf : X.env.frame = some X.env.locals) (tk : Takes X W) (hW : ∀ cls d σ H, E cls d H → W cls d σ H) (hc : X.calm = true) (hN : X.N.Nodup) (hi : PI X tg iter wi) (ok : BlkOk X.N X.env.scope scope own)
    (hg : ∀ (s : Shared) (H : Hp) (C : Addr) (cl : List (Str × Addr)) (fp : List Addr), PG (X.blk s H scope (compEnvC scope cl C X.env) fp) tg g)
    (he : ∀ (s : Shared) (H : Hp) (C : Addr) (cl : List (Str × Addr)) (fp : List Addr) (xe : Value → Shared → Prop), L2.Passes (L2.CX X.prog X.w) ((X.blk s H scope (compEnvC scope cl C X.env) fp).wish xe) E → PE ((X.blk s H scope (compEnvC scope cl C X.env) fp).wish xe) elt te)
    (hfs : ∀ x, foldedSetIterable iter X.env x = pure x := by intro _; rfl) :
    PE X (.ListComp elt [⟨tg, iter, [], 0⟩] scope pos) (tLc wi g tYes te (own.map (·.2))) := by
  refine ⟨fun pins s σ H Q I h => ?_⟩
  rw [eval_ListComp]
  have hfree : ∀ y ∈ scope.names, y.2 = .free → ∃ c, X.env.cells.lookup y.1 = some c := fun y hy e => (ok.free y hy e).elim (fun k => I.ok.has _ (.inl k)) fun k => I.ok.has _ (.inr k)
  refine comp_raise rfl hfs (closure_ok hfree) ok.kind (fun y hy e => by rw [ok.uniq y hy, e]) (thn (hi.run pins s σ H _ I h) fun xv s1 hx => thn hx fun itv s2 h2 => ?_)
  obtain ⟨it, fp, tn, J, H2, e, I2, T, st2, f2, q⟩ := h2
  subst e
  refine wpAny_newObj_type (newEnv_comp ?_) (by show 0 ≤ sizeLine; decide)
  generalize hD : s2.heap.objs.size = D
  obtain ⟨Wt, ⟨m0, w0⟩, turn⟩ := q D (I2.hok.fresh (Nat.le_of_eq hD))
  generalize hs3 : ({ s2 with heap := s2.heap.push { cls := .type "list", data := .seq ([] : List Value).toArray } } : Shared) = s3
  have h3 : s3.heap = s2.heap.push { cls := .type "list", data := .seq ([] : List Value).toArray } := by rw [← hs3]
  have I3 : Inv X pins σ (upd H2 D (.lst [])) s3 := by
    rw [← hs3]
    exact I2.laid (t' := s2.toks) (fun b o e => Heap.get?_push_of_some _ e) (Nat.le_of_eq hD) ⟨Nat.zero_le _, [], 0, .nil, by rw [← hD]; exact Heap.get?_push_size _ rfl⟩
  have f3 : ∀ b ∈ fp, FpOk X pins (upd H2 D (.lst [])) b ∧ b < s3.heap.objs.size := fun b hb => by
    obtain ⟨o, e, _⟩ := T.obj _ _ st2 b hb
    have hlt : b < s2.heap.objs.size := Heap.lt_size e
    refine ⟨⟨?_, (f2 b hb).2⟩, by rw [h3, Heap.size_push]; exact Nat.lt_succ_of_lt hlt⟩
    rw [upd_ne (by rw [← hD]; exact Nat.ne_of_lt hlt)]
    exact (f2 b hb).1
  have st3 : tn 0 s3.heap := T.keep _ _ _ st2 fun b _ o e => by rw [h3]; exact Heap.get?_push_of_some _ e
  have I4 := block_start I3 ok hN f3
  generalize hcl : cellsFrom (s3.heap.objs.size + 1) scope.names (cloFrom X.env.cells scope.names []) = cl at I4
  have nfp : ∀ b ∈ fp, (upd H2 D (.lst [])) b = none := fun b hb => (f3 b hb).1.1
  have pg := hg s3 (upd H2 D (.lst [])) s3.heap.objs.size cl fp
  show codeAny _ _ (.compStart (.ListComp elt [⟨tg, iter, [], 0⟩] scope pos) 0 (.ref it) (.ref D) (compEnvC scope cl s3.heap.objs.size X.env)) (postX (model X.prog X.w) X.A X.xe (EP X pins σ Q) (.ref D) (compEnvC scope cl s3.heap.objs.size X.env)) { s3 with heap := pushCells (s3.heap.push { cls := .type "dict", data := .dict #[] }) scope.names }
  have pe0 := he s3 (upd H2 D (.lst [])) s3.heap.objs.size cl fp
  have cL : (compEnvC scope cl s3.heap.objs.size X.env).locals = s3.heap.objs.size := rfl
  have cF : (compEnvC scope cl s3.heap.objs.size X.env).frame = X.env.frame := rfl
  generalize compEnvC scope cl s3.heap.objs.size X.env = ce at I4 pg pe0 cL cF ⊢
  generalize hH3 : upd H2 D (.lst []) = H3 at I3 I4 pg pe0 w0 nfp f3
  -- what leaves the block by an error
  have out : ∀ {pins' : List (Addr × Obj)} {σ' : L2.St} {H' : Hp} {s' : Shared} {e : Value} {s'' : Shared}, Inv (X.blk s3 H3 scope ce fp) pins' σ' H' s' → L2.CX X.prog X.w X.stack H' s' E e s'' →
      notedBy (model X.prog X.w) X.A ce (fun e s'' => postX (model X.prog X.w) X.A X.xe (EP X pins σ Q) (.ref D) ce (.error e) s'') e s'' := fun {pins' σ' H' s' e s''} I' c => by
    obtain ⟨m, hn, _⟩ := I'.loc
    exact block_exc hs hf cF tk hW I3 (Nat.le_of_eq cL.symm) (fun b hb => (f3 b hb).1) I'.os I'.base I'.hok I'.bare ⟨m, hn⟩ I'.free c _ _
  have pe := pe0 (notedBy (model X.prog X.w) X.A ce fun e s'' => postX (model X.prog X.w) X.A X.xe (EP X pins σ Q) (.ref D) ce (.error e) s'') fun pins' σ' H' s' e s'' I' c => out I'.unwish c
  generalize hs4 : ({ s3 with heap := pushCells (s3.heap.push { cls := .type "dict", data := .dict #[] }) scope.names } : Shared) = s4 at I4 ⊢
  have st4 : tn 0 s4.heap := T.keep _ _ _ st3 fun b _ o e => by rw [← hs4]; exact pushCells_keeps _ _ _ _ (Heap.get?_push_of_some _ e)
  have stat : ∀ {σ' : L2.St} {H' : Hp} {s' : Shared}, Inv (X.blk s3 H3 scope ce fp) [] σ' H' s' → (∀ b ∈ fp, H' b = none) → ∀ b ∈ fp, FpOk (X.blk s3 H3 scope ce fp) [] H' b := fun {σ' H' s'} I' hn b hb =>
    ⟨hn b hb, (I'.ok.exf b hb).1, I'.ok.exfs b hb, .inl hb, fun x c e => (I'.ok.exf b hb).2 x c e, fun p hp => absurd (show p ∈ ([] : List (Addr × Obj)) ++ [] from hp) (by simp)⟩
  have loop : codeAny (model X.prog X.w) X.A (.compLoop (.ListComp elt [⟨tg, iter, [], 0⟩] scope pos) 0 (.ref it) (.ref D) ce) (postX (model X.prog X.w) X.A X.xe (EP X pins σ Q) (.ref D) ce) s4 := by
    refine compLoop_any (fun n s' => ∃ i H', Inv (X.blk s3 H3 scope ce fp) [] (wipe σ (own.map (·.2))) H' s' ∧ tn i s'.heap ∧ (∀ b ∈ fp, H' b = none) ∧ Wt i n H') ?_ m0 ⟨0, H3, I4, st4, nfp, w0⟩
    rintro n s5 ⟨i, H5, I5, st5, n5, w5⟩
    rcases turn i n H5 w5 with ⟨stop, qq⟩ | ⟨go, Nx, hNx, step⟩
    · refine thnF (T.done (X.blk s3 H3 scope ce fp) rfl rfl rfl hc i [] s5 _ H5 (fun _ _ => False) I5 (stat I5 n5) st5 stop) fun r s6 ⟨hr, I6⟩ => ?_
      subst hr
      have I7 : Inv X pins σ H5 s6 := I3.call' (ch := fp) I6.os I6.base I6.hok I6.bare fun b hb => ⟨(f3 b hb).1.2.2.2.1, (f3 b hb).1.2.1, (f3 b hb).1.2.2.2.2.1, (f3 b hb).1.2.2.2.2.2⟩
      obtain ⟨m, hn, _⟩ := I6.loc
      refine ⟨m, hn, fun h' sb => ?_⟩
      have nC : H5 s3.heap.objs.size = none := by
        rw [← cL]
        exact I6.free
      obtain ⟨f0, f1, f2', f3', f4, f5⟩ := I3.fpOk (Nat.le_refl _) nC
      rw [cL] at sb
      exact ⟨.ref D, H5, I7.turned (t' := s6.toks) (fun b o hb e => (sb.2 b hb).trans e) f0 f1 f3' f4 f5, rfl, qq⟩
    · refine thnF (T.item (X.blk s3 H3 scope ce fp) rfl rfl rfl hc i [] s5 _ H5 (fun _ _ => False) I5 (stat I5 n5) st5 go) fun r s6 ⟨u, hr, h6⟩ => ?_
      subst hr
      refine thnF h6 fun _ s7 ⟨x, H7, I7, r7, y7, st7, n7⟩ => ?_
      have I7' := I7.pinned (stat I7 n7) (T.obj _ _ st7)
      refine thnF (pg.run _ s7 _ H7 x u _ I7' r7 (step x H7 y7)) fun _ s8 ⟨σ8, H8, I8, hw8, q8⟩ => ?_
      refine wpAny_tests_nil ?_
      have q8 : te σ8 H8 (fun y H4 => ∃ acc, H4 D = some (.lst acc) ∧ acc.length < sizeLine ∧ Nx (upd H4 D (.lst (acc ++ [y])))) := q8
      refine wpAny_mono (pe.run _ s8 σ8 H8 _ (I8.wish _) q8) (fun z s10 hz => ?_) fun e s10 hx => hx
      obtain ⟨yv, H10, I10, r10, acc, hD10, hz10, nx⟩ := hz
      refine app_ok (X := X.blk s3 H3 scope ce fp) I10.unwish hD10 hz10 r10 fun s11 I11 => ?_
      obtain ⟨m', hm, w'⟩ := hNx _ nx
      have pin' : ∀ b ∈ fp, ∀ o, s7.heap.get? b = some o → s11.heap.get? b = some o ∧ (upd H10 D (.lst (acc ++ [yv]))) b = none := fun b hb o e =>
        let z := I11.pin (b, o) (List.mem_append_right _ (List.mem_append_right _ (mem_pinsAt hb e)))
        ⟨z.1, z.2.1⟩
      have hl : (wipe σ (own.map (·.2))).length = σ8.length := by rw [← hw8, wipe_length]
      refine ⟨m', hm, i + 1, _, (I11.unpinned (pins := [])).weak hl (fun j v e => ?_), T.keep _ _ _ st7 fun b hb o e => (pin' b hb o e).1, fun b hb => ?_, w'⟩
      · rw [← hw8] at e
        exact (wipe_some e).1
      · obtain ⟨o, e, _⟩ := T.obj _ _ st7 b hb
        exact (pin' b hb o e).2
  exact codeAny_compStart_list loop (T.self X.A 0 _ _ _ st4 loop)
end
end Tw
/-! Tw: range(n) as a value, list of it. -/
namespace Tw
open PySem PySem.Spec PyProof.Rows L2 He
section
variable {X : Cx}
theorem cr_range1 : CallR X (.type "range") (fun vs H Q => ∃ j, vs = [V.int j] ∧ ∀ p, H p = none → Q (.ref p) (upd H p (.rng 0 j))) := by
  intro pins s σ H vs us Q I r h
  obtain ⟨j, rfl, q⟩ := h
  obtain ⟨u, rfl, rj⟩ := vals1 r
  obtain ⟨t, rfl⟩ := rj
  refine PySem.call_range_1 ⟨.ref s.heap.objs.size, upd H s.heap.objs.size (.rng 0 j), I.laid (t' := s.toks + 1 + 1) (fun b o e => Heap.get?_push_of_some _ e) (Nat.le_refl _) ?_, rfl, q _ (I.hok.fresh (Nat.le_refl _))⟩
  exact ⟨s.toks, t, s.toks + 1, Heap.get?_push_size _ rfl⟩
def upToV (n : Nat) : List V := (List.range n).map fun k : Nat => V.int (k : Int)
theorem cr_listRng (hc : X.calm = true) : CallR X (.type "list") (fun vs H Q => ∃ (p : Addr) (n : Nat), vs = [V.ref p] ∧ H p = some (.rng 0 (n : Int)) ∧ n ≤ 1000000 ∧ ∀ l, H l = none → Q (.ref l) (upd H l (.lst (upToV n)))) := by
  intro pins s σ H vs us Q I r h
  obtain ⟨p, n, rfl, hp, hn, q⟩ := h
  obtain rfl := Vals.ref1 r
  obtain ⟨t, u, v, hr⟩ := I.hok p _ hp
  have e1 : Builtin.Range.rangeSize 0 (n : Int) 1 = (n : Int) := by
    rw [rangeSize_one]
    split <;> omega
  refine PySem.call_list_range (n := n) (I.ok.hd hc) hr (small_one (by omega) (by omega) (by omega) (by omega)) e1 (by omega) fun h' tk acc c' up hl hacc => ?_
  refine ⟨.ref s.heap.objs.size, upd H s.heap.objs.size (.lst (upToV n)), I.laid up (Nat.le_refl _) ⟨?_, acc.toList, c', ?_, by simpa using hl⟩, rfl, q _ (I.hok.fresh (Nat.le_refl _))⟩
  · unfold upToV
    rw [List.length_map, List.length_range, sizeLine_eq]
    omega
  · -- item by item
    have go : ∀ (k : Nat) (us : List Value), us.length + k = n → (∀ j v, us[j]? = some v → ∃ t, v = Value.int ((k + j : Nat) : Int) t) → Vals ((List.range' k us.length).map fun k : Nat => V.int (k : Int)) us := fun k us => by
      induction us generalizing k with
      | nil => intro _ _; exact .nil
      | cons w ws ih =>
        intro hl hw
        rw [List.length_cons, List.range'_succ, List.map_cons]
        refine .cons ?_ (ih (k + 1) (by rw [List.length_cons] at hl; omega) fun j v e => ?_)
        · obtain ⟨t, e⟩ := hw 0 w rfl
          exact ⟨t, by rw [e, Nat.add_zero]⟩
        · obtain ⟨t, e'⟩ := hw (j + 1) v (by simpa using e)
          exact ⟨t, by rw [e', show k + (j + 1) = k + 1 + j by omega]⟩
    have hsz : acc.toList.length = n := by rw [Array.length_toList]; exact hacc.1
    have := go 0 acc.toList (by omega) fun j v e => by
      obtain ⟨t, e'⟩ := hacc.2 j v (by simpa using e)
      exact ⟨t, by rw [e']; simp⟩
    unfold upToV
    rw [List.range_eq_range', ← hsz]
    exact this
end
end Tw
/-! Tw: C(*e); d.update(e), both tracked. -/
namespace Tw
open PySem PySem.Spec PyProof PyProof.Rows L2 He
theorem u1 {k : Nat} {A : Around} (r : Room k A) : A.units + 1 < cLine := by
  have := r.un
  omega
section
variable {X : Cx} {CX : CXT} {k : Nat} {f C : Addr} {sp : Sp} {E : XK} {x : Str} {e : Expr} {te : TE} {p sp_ pos : Pos}
/-- C(*e) by a positional promise of its __init__ -/
theorem pe_makeSt (M : Mk X.K C f) (F : FnR X.prog X.w X.K X.mg X.base CX k f sp) (hr : Room (k + 1) X.A) (hg : Gl X x) (hm : X.mg x = some (.ref C)) (hx : Passes CX X E) (he : PE X e te) (hdb : (x == ("__debug__" : Str)) = false := by decide)
    (hst : starEach [.Starred e sp_] X.env = [(true, eval e X.env)] := by rfl) :
    PE X (.Call (.Name x p) [.Starred e sp_] [] pos) (fun σ H Q => te σ H fun y H1 => ∃ a xs, y = V.ref a ∧ (SqT X.K H1 a xs ∨ SqL X.K H1 a xs) ∧ ∀ x dx, H1 x = Option.none → H1 dx = Option.none → dx ≠ x →
      sp (V.ref x :: xs) (upd (upd H1 dx (.own x)) x (.ins C dx [])) (fun v H2 => v = .non ∧ Q (.ref x) H2) E) := by
  refine ⟨fun pins s σ H Q I h => ?_⟩
  refine wpAny_Call_Name_kw (ld_glob I hg hm ?_ hdb)
  refine PySem.W.callWith_S (h₀ := X.base) I.ok.mod.kin M.kp (thn (he.run pins s σ H _ I h) fun v s1 ⟨y, H1, I1, ry, a, xs, ey, hxs, q⟩ => ?_) hst
  subst ey
  obtain rfl : v = Value.ref a := ry
  exact StX.star_any I1 hxs fun us s2 I2 rv => ⟨I2.kIn, StX.run_makeR M F hr hx I2 rv q⟩
end
section
variable {X : Cx} {o e : Expr} {apos cpos : Pos} {td ty : TE} {pins : List (Addr × Obj)} {σ : L2.St} {H : Hp} {s : Shared} {a b : Addr} {kvs more : List (Key × V)} {A : Around} {E : Value → Shared → Prop}
theorem d_update {Q : Value → Shared → Prop} (I : Inv X pins σ H s) (e : H a = some (.dK kvs)) (e2 : H b = some (.dK more)) (hn : a ≠ b) (hz : kvs.length + more.length ≤ sizeLine) (h : ∀ s', Inv X pins σ (upd H a (.dK (mergeK kvs more))) s' → Q .none s') :
    wpAny (model X.prog X.w) A (call (.builtin "dict.update") [.ref a, .ref b]) Q E s := by
  obtain ⟨z, hd, vs, rel, dd⟩ := dk_of I.hok e
  obtain ⟨z2, hd2, vs2, rel2, dd2⟩ := dk_of I.hok e2
  refine call_meetsIn PySem.F.slot_dict_update dd.typeIs PySem.F.entry_dict_update (PySem.F.args_dict_update_2 _ _) (meets_dict_update (mixKind X.prog X.w) a b hn hd2) ⟨vs, vs2, dd, dd2, by rw [← rel.length, ← rel2.length]; exact hz, fun h' dd' _ hs => h _ ?_⟩
  have he : ∃ q, h'.get? a = some q := let ⟨q, _, _, hq, _⟩ := dd'; ⟨q, hq⟩
  exact d_write (t' := s.toks) I (by rw [e]; exact True.intro) hs he (dk_new (Nat.le_trans (length_mergeK _ _) hz) hd (KV.merge rel2 rel) dd')
/-- d.update(e) -/
def tDUpd (td ty : TE) : TE := fun σ H Q => td σ H fun x H1 => ∃ a, x = .ref a ∧ IsD H1 a ∧ ty σ H1 fun y H2 => ∃ b kvs more, y = .ref b ∧ a ≠ b ∧ H2 a = some (.dK kvs) ∧ H2 b = some (.dK more) ∧ kvs.length + more.length ≤ sizeLine ∧ Q .non (upd H2 a (.dK (mergeK kvs more)))
theorem pe_dupd (ho : PE X o td) (he : PE X e ty) (m : M1 X o "update" apos e cpos) : PE X (.Call (.Attribute o "update" apos) [e] [] cpos) (tDUpd td ty) := by
  refine ⟨fun pins s σ H Q I h => ?_⟩
  refine wpAny_Call_method m.base m.few m.line PySem.F.plainAttrs_dict PySem.F.slot_dict_update PySem.F.type_dict_update (thn (ho.run pins s σ H _ I h) fun u s1 ⟨x, H1, I1, rx, a, ex, d, q1⟩ => ?_)
  subst ex
  obtain rfl : u = Value.ref a := rx
  obtain ⟨t1, t2, _⟩ := isD_at I1 d
  refine ⟨t1, t2, ?_⟩
  rw [m.trees]
  refine Calls.callWith_builtin rfl (Calls.evalArgs_plain (Calls.spliced_cons (thn (he.run pins s1 σ H1 _ I1 q1) fun iv s2 ⟨y, H2, I2, ry, b, kvs, more, ey, hn, ea, eb, hz, q2⟩ => Calls.spliced_nil ?_)))
  subst ey
  obtain rfl : iv = Value.ref b := ry
  exact d_update I2 ea eb hn hz fun s3 I3 => ⟨.non, _, I3, rfl, q2⟩
end
theorem pi_tupK {X : Cx} (K : PySem.W.Frag) {tg l : Expr} {tl : TE} (hl : PE X l tl) (h : X.K = K := by rfl) : PI X tg l (iTup K tl) := by
  subst h
  exact pi_tup hl
theorem pg_tupK {X : Cx} (K : PySem.W.Frag) {es : List Expr} {k : Nat} {t : TGs} {n : Nat} {pos : Pos} (hc : X.calm = true) (h : PGs X es t) (hK : X.K = K := by rfl)
    (hn : (assignEach es X.env).length = n := by rfl) (hst : (assignEach es X.env).findIdx? (·.1) = none := by rfl) : PG X (.Tuple es k pos) (gTup K n t) := by
  subst hK
  exact pg_tup hc h hn hst
theorem call_tuple_ofK {X : Cx} (K : PySem.W.Frag) (h : X.K = K := by rfl) : CallR X (.type "tuple") (fun xs H Q => ∃ p ys, xs = [V.ref p] ∧ ((SqL K H p ys ∧ ∀ (l : Addr), H l = Option.none → Q (V.ref l) (upd H l (HO.tup ys))) ∨ SqT K H p ys ∧ Q (V.ref p) H)) := by
  subst h
  exact call_tuple_of
end Tw
namespace K09
open PySem PySem.Spec PyProof.Rows L2 He Tw
/-! ### tables of code objects, by names -/
def nm (q : Str) : Str := q ++ ".<locals>." ++ "<lambda>"
def host : Str → Option Str := fun q => some (nm q)
def Tb (K : Fg) : List (Addr × Str) := [(tabAt K (ga K "_law_settle_right"), nm "_law_settle_right"), (tabAt K (ga K "_law_late_right"), nm "_law_late_right"), (tabAt K (ga K "_law_lost_right"), nm "_law_lost_right"), (tabAt K (ga K "_law_tried"), nm "_law_tried"), (tabAt K (ga K "_law_try_right"), nm "_law_try_right"), (tabAt K (ma K (ga K "Row") "settle"), nm "Row.settle")]
abbrev Tk (K : Fg) (H : Hp) : Prop := Tbn host (Tb K) H
def TBs (K : Fg) (mg : Str → Option Value) (base : Heap) : Prop := ∀ f ∈ tabs, LamX.TabB base mg (Tw.codeAt K (f K)) (tabAt K (f K))
theorem TBs.up {K : Fg} {mg : Str → Option Value} {b b' : Heap} (t : TBs K mg b) (s : Sub b b') : TBs K mg b' := fun f hf => ⟨(t f hf).code.keeps s, by
  obtain ⟨bm, o, m1, m2, m3, m4, m5, m6⟩ := (t f hf).bm
  exact ⟨bm, o, m1, m2, m3, m4, s _ _ m5, m6⟩, (t f hf).gP⟩
theorem bmIn {base : Heap} {mg : Str → Option Value} {c P : Addr} (t : LamX.TabB base mg c P) : BmIn base mg := ⟨P, t.bm⟩
theorem made_def {X : Cx} {L : List (Addr × Str)} {c P : Addr} (TB : LamX.TabB X.base X.mg c P) (hcode : X.env.code = .ref c) (hm : (P, X.env.qual ++ "<lambda>") ∈ L) :
    ∃ c P, X.env.code = .ref c ∧ (P, X.env.qual ++ "<lambda>") ∈ L ∧ ∀ pins σ H s, Inv X pins σ H s → True → PySem.W.CodeHd s.heap c P := ⟨c, P, hcode, hm, fun pins σ H s I _ => TB.code.keeps I.bk⟩
theorem made_lam {X : Cx} {L : List (Addr × Str)} {c P : Addr} {q : Str} (hcode : X.env.code = .ref c) (hm : (P, X.env.qual ++ "<lambda>") ∈ L) :
    ∃ c' P', X.env.code = .ref c' ∧ (P', X.env.qual ++ "<lambda>") ∈ L ∧ ∀ pins σ H s, Inv X pins σ H s → H c = some (CodeN c q P) → PySem.W.CodeHd s.heap c' P' := ⟨c, P, hcode, hm, fun pins σ H s I h => by
  obtain ⟨⟨h1, _⟩, _, _⟩ := I.hok c _ h
  exact h1⟩
theorem codeIn_ref {K : Fg} {v : Value} {q : Str} (h : PySem.W.codeIn K v q = true) : ∃ c, v = .ref c := by
  unfold PySem.W.codeIn at h
  split at h
  · exact ⟨_, rfl⟩
  · cases h
theorem caps_by {cs N : List Str} {caps : List Nat} (h : ((cs.zip caps).all fun p => decide (N[p.2]? = some p.1)) = true) : ∀ (j : Nat) (y : Str) (i : Nat), cs[j]? = some y → caps[j]? = some i → N[i]? = some y := fun j y i h1 h2 => by
  have hm : (y, i) ∈ cs.zip caps := List.mem_of_getElem? (i := j) (by rw [List.getElem?_zip_eq_some]; exact ⟨h1, h2⟩)
  exact of_decide_eq_true (List.all_eq_true.mp h _ hm)
theorem tbn_but {ho : Str → Option Str} {L : List (Addr × Str)} {p : Addr} {H H' : Hp} (t : Tbn ho L H) (e : But p H H') (hp : ∃ C dx fs, H p = some (.ins C dx fs)) : Tbn ho L H' := by
  obtain ⟨C, dx, fs, hp⟩ := hp
  obtain ⟨ν, h1, h2⟩ := t
  refine ⟨ν, h1, fun P q hq => ?_⟩
  obtain ⟨ps, a1, a2, a3⟩ := h2 P q hq
  refine ⟨ps, e _ _ a1 (fun z => ?_), a2, fun pos cv hc => ?_⟩
  · rw [z, hp] at a1
    cases a1
  · obtain ⟨c, P', y1, y2, y3⟩ := a3 pos cv hc
    refine ⟨c, P', y1, e _ _ y2 (fun z => ?_), y3⟩
    rw [z, hp] at y2
    unfold CodeN at y2
    cases y2
/-! ### what settle finds -/
def dA (w : Nat) (z : Str) : PyData := match ansV w z with
  | .int i => .int i
  | .str x => .str x
  | _ => .none
theorem dA_int {w : Nat} {z : Str} {i : Int} (h : ansV w z = .int i) : dA w z = .int i := by
  unfold dA
  rw [h]
theorem dA_str {w : Nat} {z x : Str} (h : ansV w z = .str x) : dA w z = .str x := by
  unfold dA
  rw [h]
theorem dA_scal (w : Nat) (z : Str) : ScalD (ansV w z) (dA w z) := by
  rcases ans_two w z z with ⟨a, _, e, _⟩ | ⟨a, _, e, _⟩
  · rw [e, dA_int e]
    exact .int a
  · rw [e, dA_str e]
    exact .str a
theorem dA_alike (w : Nat) (z u : Str) : PySem.W.alike (dA w z) (dA w u) = true := by
  rcases ans_two w z u with ⟨a, b, e1, e2⟩ | ⟨a, b, e1, e2⟩
  · rw [dA_int e1, dA_int e2]
    simp [PySem.W.alike]
  · rw [dA_str e1, dA_str e2]
    simp [PySem.W.alike]
theorem le_key (w : Nat) (p q : Int × Str) : (!PySem.W.dataLt (Tw.pairD (q.1, dA w q.2)) (Tw.pairD (p.1, dA w p.2))) = leP w p q := by
  unfold Tw.pairD
  rw [PySem.W.dataLt_pair (by simp [PySem.W.alike]) (dA_alike w _ _)]
  unfold leP lea
  by_cases h : q.1 = p.1
  · have hi : ∀ b : List Nat, ¬ b < b := fun b => List.lt_irrefl b
    rcases ans_two w q.2 p.2 with ⟨a, b, e1, e2⟩ | ⟨a, b, e1, e2⟩
    · rw [dA_int e1, dA_int e2, e1, e2, PySem.W.dataLt_int]
      by_cases hab : a = b <;> simp [h, hab, PyData.eqv, ltV]
    · rw [dA_str e1, dA_str e2, e1, e2, PySem.W.dataLt_str]
      by_cases hab : a = b <;> simp [h, hab, PyData.eqv, ltV, hi]
  · have h' : ¬ p.1 = q.1 := fun z => h z.symm
    rw [if_neg (by simp [PyData.eqv, h]), PySem.W.dataLt_int]
    by_cases h2 : q.1 < p.1
    · have : ¬ p.1 < q.1 := by omega
      simp [h2, this, h']
    · have : p.1 < q.1 := by omega
      simp [h2, this]
/-- place, item and pair side by side -/
def trip (ys : List V) (ps : List (Int × Str)) : List (V × (V × (Int × Str))) := (upToV ys.length).zip (ys.zip ps)
def sortT (w : Nat) (ys : List V) (ps : List (Int × Str)) : List (V × (V × (Int × Str))) := (trip ys ps).mergeSort fun a b => leP w a.2.2 b.2.2
theorem upTo_get {n k : Nat} (h : k < n) : (upToV n)[k]? = some (.int (k : Int)) := by
  unfold upToV
  rw [List.getElem?_map, List.getElem?_range h]
  rfl
theorem trip_mem {ys : List V} {ps : List (Int × Str)} {x : V × (V × (Int × Str))} (hx : x ∈ trip ys ps) : ∃ k : Nat, x.1 = .int (k : Int) ∧ ys[k]? = some x.2.1 ∧ ps[k]? = some x.2.2 := by
  unfold trip at hx
  obtain ⟨k, hk, e⟩ := List.getElem_of_mem hx
  have e' : ((upToV ys.length).zip (ys.zip ps))[k]? = some x := by rw [List.getElem?_eq_getElem hk, e]
  rw [List.getElem?_zip_eq_some, List.getElem?_zip_eq_some] at e'
  obtain ⟨e1, e2, e3⟩ := e'
  have hl : k < ys.length := (List.getElem?_eq_some_iff.mp e2).1
  rw [upTo_get hl] at e1
  exact ⟨k, (Option.some.inj e1).symm, e2, e3⟩
theorem sortT_mem {w : Nat} {ys : List V} {ps : List (Int × Str)} {x : V × (V × (Int × Str))} (hx : x ∈ sortT w ys ps) : x ∈ trip ys ps := (List.mergeSort_perm _ _).mem_iff.mp hx
theorem upTo_len (n : Nat) : (upToV n).length = n := by
  unfold upToV
  rw [List.length_map, List.length_range]
theorem sortT_pairs {w : Nat} {ys : List V} {ps : List (Int × Str)} (hl : ys.length = ps.length) : (sortT w ys ps).map (·.2.2) = ps.mergeSort (leP w) := by
  unfold sortT
  rw [List.map_mergeSort (s := leP w) fun _ _ _ _ => rfl]
  congr 1
  unfold trip
  rw [show (fun x : V × (V × (Int × Str)) => x.2.2) = Prod.snd ∘ Prod.snd from rfl, ← List.map_map, List.map_snd_zip (by rw [upTo_len, List.length_zip, hl, Nat.min_self]; exact Nat.le_refl _), List.map_snd_zip (by rw [hl]; exact Nat.le_refl _)]
theorem sortT_order {w : Nat} {ys : List V} {ps : List (Int × Str)} (hl : ys.length = ps.length) :
    (((upToV ys.length).zip (ps.map fun p => (p.1, dA w p.2))).mergeSort (PySem.W.dataLe false fun b => Tw.pairD b.2)).map (·.1) = (sortT w ys ps).map (·.1) := by
  have e : (upToV ys.length).zip (ps.map fun p => (p.1, dA w p.2)) = (trip ys ps).map fun x => (x.1, (x.2.2.1, dA w x.2.2.2)) := by
    refine List.ext_getElem? fun k => ?_
    unfold trip
    by_cases hk : k < ys.length
    · have h1 := upTo_get hk
      have h2 : ys[k]? = some ys[k] := List.getElem?_eq_getElem hk
      have h3 : ps[k]? = some (ps[k]'(by omega)) := List.getElem?_eq_getElem (by omega)
      rw [List.getElem?_map]
      have a1 : ((upToV ys.length).zip (ys.zip ps))[k]? = some (.int (k : Int), (ys[k], ps[k]'(by omega))) := by
        rw [List.getElem?_zip_eq_some, List.getElem?_zip_eq_some]
        exact ⟨h1, h2, h3⟩
      rw [a1]
      have a2 : ((upToV ys.length).zip (ps.map fun p => (p.1, dA w p.2)))[k]? = some (.int (k : Int), ((ps[k]'(by omega)).1, dA w (ps[k]'(by omega)).2)) := by
        rw [List.getElem?_zip_eq_some, List.getElem?_map, h3]
        exact ⟨h1, rfl⟩
      rw [a2]
      rfl
    · rw [List.getElem?_eq_none (by rw [List.length_zip, upTo_len, List.length_map]; omega), List.getElem?_eq_none (by rw [List.length_map, List.length_zip, upTo_len]; omega)]
  rw [e]
  unfold sortT
  rw [← List.map_mergeSort (r := fun a b => leP w a.2.2 b.2.2) fun a _ b _ => ?_, List.map_map]
  · rfl
  · rw [PySem.W.dataLe_eq]
    exact (le_key w a.2.2 b.2.2).symm
theorem paired_maps {α β γ : Type} {F : β → γ → Prop} {g : α → β} {h : α → γ} : ∀ {l : List α}, (∀ x ∈ l, F (g x) (h x)) → Paired F (l.map g) (l.map h)
  | [], _ => .nil
  | x :: l, k => .cons (k x List.mem_cons_self) (paired_maps fun y hy => k y (List.mem_cons_of_mem _ hy))
theorem paired_ix {α β : Type} {F : α → β → Prop} : ∀ {xs : List α} {ys : List β}, xs.length = ys.length → (∀ (i : Nat) (x : α) (y : β), xs[i]? = some x → ys[i]? = some y → F x y) → Paired F xs ys
  | [], [], _, _ => .nil
  | x :: xs, y :: ys, h, k => .cons (k 0 x y rfl rfl) (paired_ix (by simpa using h) fun i a b h1 h2 => k (i + 1) a b (by simpa using h1) (by simpa using h2))
  | [], _ :: _, h, _ => by simp at h
  | _ :: _, [], h, _ => by simp at h
end K09
namespace K09
open PySem PySem.Spec PyProof.Rows L2 He Tw
/-! ### one row added to another, by pairs -/
theorem asc_ext : ∀ {ns ms : List Int}, ns.Pairwise (· < ·) → ms.Pairwise (· < ·) → (∀ k, k ∈ ns ↔ k ∈ ms) → ns = ms
  | [], [], _, _, _ => rfl
  | [], m :: ms, _, _, h => absurd ((h m).mpr List.mem_cons_self) (by simp)
  | n :: ns, [], _, _, h => absurd ((h n).mp List.mem_cons_self) (by simp)
  | n :: ns, m :: ms, hn, hm, h => by
    obtain ⟨n1, n2⟩ := List.pairwise_cons.mp hn
    obtain ⟨m1, m2⟩ := List.pairwise_cons.mp hm
    have e : n = m := by
      rcases List.mem_cons.mp ((h n).mp List.mem_cons_self) with e | e
      · exact e
      · rcases List.mem_cons.mp ((h m).mpr List.mem_cons_self) with e' | e'
        · exact e'.symm
        · have := m1 n e
          have := n1 m e'
          omega
    subst e
    congr 1
    refine asc_ext n2 m2 fun k => ⟨fun hk => ?_, fun hk => ?_⟩
    · rcases List.mem_cons.mp ((h k).mp (List.mem_cons_of_mem _ hk)) with e | e
      · have := n1 k hk
        omega
      · exact e
    · rcases List.mem_cons.mp ((h k).mpr (List.mem_cons_of_mem _ hk)) with e | e
      · have := m1 k hk
        omega
      · exact e
def Plus (ps qs us : List (Int × Str)) : Prop := ∃ ns, Rks ps qs ns ∧ us = takenL "+" ps qs ns
theorem Plus.uniq {ps qs us vs : List (Int × Str)} (h : Plus ps qs us) (g : Plus ps qs vs) : us = vs := by
  obtain ⟨ns, R, rfl⟩ := h
  obtain ⟨ms, S, rfl⟩ := g
  rw [asc_ext R.asc S.asc fun k => (R.mem k).trans (S.mem k).symm]
theorem Plus.asc {ps qs us : List (Int × Str)} (h : Plus ps qs us) : Asc us := by
  obtain ⟨ns, R, rfl⟩ := h
  exact takenL_asc R.asc
theorem Plus.len {ps qs us : List (Int × Str)} (h : Plus ps qs us) : us.length ≤ ps.length + qs.length := by
  obtain ⟨ns, R, rfl⟩ := h
  exact takenL_len R
theorem Plus.mem {ps qs us : List (Int × Str)} (h : Plus ps qs us) {q : Int × Str} (hq : q ∈ us) : q ∈ ps ∨ q ∈ qs := by
  obtain ⟨ns, R, rfl⟩ := h
  exact takenL_mem hq
/-- rows added one after another -/
def Adds : List (Int × Str) → List (List (Int × Str)) → List (Int × Str) → Prop
  | ps, [], us => us = ps
  | ps, q :: r, us => ∃ m, Plus ps q m ∧ Adds m r us
theorem Adds.uniq : ∀ {r : List (List (Int × Str))} {ps us vs : List (Int × Str)}, Adds ps r us → Adds ps r vs → us = vs
  | [], _, _, _, h, g => by
    have h' : _ = _ := h
    have g' : _ = _ := g
    rw [h', g']
  | q :: r, _, _, _, ⟨m, h1, h2⟩, ⟨n, g1, g2⟩ => by
    rw [h1.uniq g1] at h2
    exact Adds.uniq h2 g2
theorem Adds.app : ∀ {a b : List (List (Int × Str))} {ps us vs : List (Int × Str)}, Adds ps a us → Adds us b vs → Adds ps (a ++ b) vs
  | [], _, _, _, _, h, g => by
    have h' : _ = _ := h
    rw [h'] at g
    exact g
  | q :: r, _, _, _, _, ⟨m, h1, h2⟩, g => ⟨m, h1, Adds.app h2 g⟩
theorem Adds.facts : ∀ {r : List (List (Int × Str))} {ps us : List (Int × Str)}, Adds ps r us → Asc ps → (∀ q ∈ ps, Gd q) → (∀ q ∈ r, ∀ x ∈ q, Gd x) → (∀ q ∈ r, q.length ≤ 3) → Asc us ∧ (∀ q ∈ us, Gd q) ∧ us.length ≤ ps.length + 3 * r.length
  | [], _, _, h, a, g, _, _ => by
    have h' : _ = _ := h
    rw [h']
    exact ⟨a, g, by simp⟩
  | q :: r, ps, us, ⟨m, h1, h2⟩, a, g, gr, lr => by
    obtain ⟨b1, b2, b3⟩ := Adds.facts h2 h1.asc (fun x hx => (h1.mem hx).elim (g x) (gr q List.mem_cons_self x)) (fun q' hq => gr q' (List.mem_cons_of_mem _ hq)) fun q' hq => lr q' (List.mem_cons_of_mem _ hq)
    refine ⟨b1, b2, ?_⟩
    have := h1.len
    have := lr q List.mem_cons_self
    rw [List.length_cons]
    omega
theorem nodup_le : ∀ {rs cs : List Int}, rs.Nodup → (∀ r ∈ rs, r ∈ cs) → rs.length ≤ cs.length
  | [], _, _, _ => Nat.zero_le _
  | r :: rs, cs, nd, h => by
    obtain ⟨n1, n2⟩ := List.nodup_cons.mp nd
    have hr := h r List.mem_cons_self
    have ih := nodup_le (rs := rs) (cs := cs.erase r) n2 fun x hx => (List.mem_erase_of_ne (fun e => n1 (by rw [← e]; exact hx))).mpr (h x (List.mem_cons_of_mem _ hx))
    have := List.length_erase_of_mem hr
    have := List.length_pos_of_mem hr
    rw [List.length_cons]
    omega
theorem few_len {ps qs : List (Int × Str)} (h : ps.length + qs.length < 64) : Few ps qs := fun rs nd hr => by
  have := nodup_le (cs := rk ps ++ rk qs) nd fun r hx => List.mem_append.mpr (hr r hx)
  rw [List.length_append] at this
  unfold rk at this
  rw [List.length_map, List.length_map] at this
  omega
theorem Adds.len : ∀ {r : List (List (Int × Str))} {ps us : List (Int × Str)}, Adds ps r us → Asc ps → (∀ q ∈ r, q.length ≤ 3) → Asc us ∧ us.length ≤ ps.length + 3 * r.length
  | [], _, _, h, a, _ => by
    have h' : _ = _ := h
    rw [h']
    exact ⟨a, by simp⟩
  | q :: r, ps, us, ⟨m, h1, h2⟩, a, lr => by
    obtain ⟨b1, b3⟩ := Adds.len h2 h1.asc fun q' hq => lr q' (List.mem_cons_of_mem _ hq)
    refine ⟨b1, ?_⟩
    have := h1.len
    have := lr q List.mem_cons_self
    rw [List.length_cons]
    omega
/-- but for a row, rows and items stay -/
theorem row_but {K : Fg} {H H' : Hp} {a r : Addr} {ys zs : List V} (ha : RowAt K H a ys) (n : r ≠ a) (e : But a H H') (h : RowAt K H r zs) : RowAt K H' r zs := by
  obtain ⟨dx, t, h1, h2⟩ := h
  obtain ⟨_, _, h3, _⟩ := ha
  exact ⟨dx, t, e _ _ h1 n, e _ _ h2 fun z => by
    rw [z, h3] at h2
    cases h2⟩
theorem its_butR {K : Fg} {H H' : Hp} {a : Addr} {ys : List V} (ha : RowAt K H a ys) (e : But a H H') : ∀ {us : List V} {ps : List (Int × Str)}, Its K H us ps → Its K H' us ps
  | _, _, .nil => .nil
  | _, _, .cons ⟨b, h1, dx, h2⟩ t => .cons ⟨b, h1, dx, e _ _ h2 fun z => by
    obtain ⟨_, _, h3, _⟩ := ha
    rw [z, h3] at h2
    have := Option.some.inj h2
    simp at this⟩ (its_butR ha e t)
/-- the list at l: rows apart from a, of these pairs -/
def Rws (K : Fg) (H : Hp) (a : Addr) (rs : List V) (qss : List (List (Int × Str))) : Prop := Paired (fun v q => ∃ (r : Addr) (zs : List V), v = .ref r ∧ r ≠ a ∧ RowAt K H r zs ∧ Its K H zs q ∧ Asc q ∧ q.length ≤ 3) rs qss
theorem Rws.but {K : Fg} {H H' : Hp} {a : Addr} {ys : List V} (ha : RowAt K H a ys) (e : But a H H') : ∀ {rs : List V} {qss : List (List (Int × Str))}, Rws K H a rs qss → Rws K H' a rs qss
  | _, _, .nil => .nil
  | _, _, .cons ⟨r, zs, h1, h2, h3, h4, h5⟩ t => .cons ⟨r, zs, h1, h2, row_but ha h2 e h3, its_butR ha e h4, h5⟩ (Rws.but ha e t)
theorem Rws.same {K : Fg} {H H' : Hp} {a : Addr} (e : Same H H') : ∀ {rs : List V} {qss : List (List (Int × Str))}, Rws K H a rs qss → Rws K H' a rs qss
  | _, _, .nil => .nil
  | _, _, .cons ⟨r, zs, h1, h2, h3, h4, h5⟩ t => .cons ⟨r, zs, h1, h2, h3.same e, h4.same e, h5⟩ (Rws.same e t)
theorem Rws.three {K : Fg} {H : Hp} {a : Addr} : ∀ {rs : List V} {qss : List (List (Int × Str))}, Rws K H a rs qss → ∀ q ∈ qss, q.length ≤ 3
  | _, _, .nil => fun _ h => nomatch h
  | _, _, .cons ⟨r, zs, h1, h2, h3, h4, h5, h6⟩ t => fun q hq => by
    rcases List.mem_cons.mp hq with rfl | hq
    · exact h6
    · exact Rws.three t q hq
theorem Rws.app {K : Fg} {H : Hp} {a : Addr} {rs us : List V} {qss vss : List (List (Int × Str))} (h : Rws K H a rs qss) (g : Rws K H a us vss) : Rws K H a (rs ++ us) (qss ++ vss) := paired_ap g h
end K09
namespace K09
open PySem PySem.Spec PyProof.Rows L2 He Tw
abbrev s_chg : Stmt := topS 42
abbrev N_chg : List Str := ["_law_row", "_law_some", "_law_is_bad", "_law_values_here"]
theorem sc_chg : FnScope N_chg ["_law_row", "_law_some", "_law_is_bad"] (defScope s_chg) := ⟨rfl, rfl, rfl, by decide +kernel, rfl, by decide +kernel, by decide +kernel⟩
def spCh (K : Fg) : Sp := fun vs H Q E => ∃ (a l : Addr) (b : Bool) (ys rs : List V) (ps : List (Int × Str)) (qss : List (List (Int × Str))), vs = [.ref a, .ref l, .bl b] ∧ RowAt K H a ys ∧ Its K H ys ps ∧ Asc ps ∧ H l = some (.lst rs) ∧ Rws K H a rs qss ∧ ps.length + 3 * qss.length < 64 ∧
  ∀ us, Adds ps qss us → (b = false → ∀ (H' : Hp) (ys' : List V), But a H H' → RowAt K H' a ys' → Its K H' ys' us → Q (.int (qss.length : Nat)) H') ∧
    (b = true → ∀ (d : Addr) (H' : Hp) (ys' : List V), But a H H' → RowAt K H' a ys' → H' d = some (.xd [("at", .int (us.length : Nat))]) → E (.ref (ga K "BadPlace")) (some d) H')
section
variable {P : Program} {w : World} {K : Fg} {mg : Str → Option Value} {base : Heap} {fd : Nat → FuncData}
theorem ok_chg (D : DefsK K fd) (T : Txt K mg) : FnOk P w K mg base (L2.CX P w) 10 (ga K "_law_changes") (fd 34) ["_law_row", "_law_some", "_law_is_bad"] (spCh K) := by
  have zlen : mg "len" = none := T.bl (by decide +kernel)
  have b_iadd : Binds K (fd 9) ["self", "other"] [] := (show FnP K "__iadd__" "Row.__iadd__" s_iadd (ma K (ga K "Row") "__iadd__") (fd 9) from D 9 _ rfl).bindsN fun _ _ _ _ _ _ us hl => match us, hl with | [_, _], _ => rfl
  have o_iadd : OwnB K (ga K "Row") "__iadd__" (ma K (ga K "Row") "__iadd__") := T.own (by decide +kernel)
  have FL : FnP K "__len__" "Row.__len__" s_len (ma K (ga K "Row") "__len__") (fd 42) := D 42 _ rfl
  have GL : FnOk P w K mg base CX0 1 _ (fd 42) ["self"] (spLen K) := ok_len FL T
  have bL : Binds K (fd 42) ["self"] [] := FL.bindsN fun _ _ _ _ _ _ us hl => match us, hl with | [_], _ => rfl
  have mL := T.mtR2 (m := "__len__") (by decide +kernel)
  have mS := T.mtR2 (m := "__setitem__") (by decide +kernel)
  have F : FnP K "_law_changes" "_law_changes" s_chg (ga K "_law_changes") (fd 34) := D 34 _ rfl
  refine F.ok sc_chg (fun vs H Q E h => ?_) (fun cdv A outer s H vs Q E hr h => ?_)
  · obtain ⟨a, l, b, ys, rs, ps, qss, rfl, _⟩ := h
    rfl
  · obtain ⟨a, l, b, ys, rs, ps, qss, rfl, ha, its, asc, hl, hrs, few, k⟩ := h
    refine ⟨_, (pss_cons (ps_for (passes_of rfl) rfl (pi_list (pv 1)) (pg_name (i := 3) sc_chg.nd rfl (Or.inl rfl))
    (pss_one (ps_aug (i := 0) sc_chg.nd rfl (.inl rfl) (pv 3) (in_own (op := .Add) (E := E) o_iadd (ok_iadd D T) (hr.mono (by decide)) b_iadd (passes_call (takes_of rfl rfl rfl rfl) (fun _ _ _ _ h => h))))))
    (pss_cons (ps_if (pt_truth (pv 2) (by intro _; rfl)) (pss_one (ps_asg pe_int (pg_sub (pv 0) (pe_callB (call_lenOwn (E := E0) mL.at_ mL.fn GL (hr.mono (by decide)) bL pass0) (by rfl) zlen (by decide +kernel) (pa_cons (pv 0) pa_nil)) (pset_own (E := E) T.noSeq mS.at_ mS.fn (G_set D T) (hr.mono (by decide)) (b_set D) (passes_call (takes_of rfl rfl rfl rfl) (fun _ _ _ _ h => h)))))) pss_nil)
    (pss_one (ps_ret (pe_callB call_len (by rfl) zlen (by decide +kernel) (pa_cons (pv 1) pa_nil)))))), ?_⟩
    have nl : l ≠ a := fun z => by
      obtain ⟨_, _, h3, _⟩ := ha
      rw [z, h3] at hl
      cases hl
    have l3 := Rws.three hrs
    have ll : rs.length = qss.length := Paired.length hrs
    refine ⟨_, rfl, l, rfl, ⟨_, SqL.of hl⟩, for_list (xs := rs) (fun i σ H' => ∃ (v3 : Option V) (ms : List (Int × Str)) (ys' : List V), σ = [some (.ref a), some (.ref l), some (.bl b), v3] ∧ But a H H' ∧ RowAt K H' a ys' ∧ Its K H' ys' ms ∧ Adds ps (qss.take i) ms) ⟨none, ps, ys, rfl, But.of (fun _ _ e => e), ha, its, rfl⟩ (fun i σ H' _ ⟨_, _, _, _, B, _⟩ => SqL.of (B _ _ hl nl)) ?_ ?_⟩
    · rintro i y σ H1 hy ⟨v3, ms, ys', rfl, B1, ra, ia, ad⟩
      obtain ⟨q, hq, r, zs, rfl, nr, rr, ir, aq, q3⟩ := paired_get hrs hy
      have lm := Adds.len ad asc fun z hz => l3 z (List.mem_of_mem_take hz)
      have lt := List.length_take_le' i qss
      have hi : i < qss.length := (List.getElem?_eq_some_iff.mp hq).1
      have lt2 := List.length_take_le i qss
      obtain ⟨da, ta, hda, hta⟩ := id ra
      have rr1 := row_but ha nr B1 rr
      obtain ⟨dr, tr, hdr, htr⟩ := id rr1
      have ir1 := its_butR ha B1 ir
      refine ⟨_, rfl, _, rfl, a, _, _, rfl, hda, a, r, ys', zs, ms, q.map some, _, rfl, ra, ia, asc_up lm.1, by omega, .row hdr, its_src (row_seq rr1) ir1 (by omega), fun qs eq uq lq => ?_, fun z f v bad => (bad_up (asc_up aq) (by omega) bad).elim⟩
      obtain rfl : q = qs := (List.map_inj_right (f := some) fun _ _ h => Option.some.inj h).mp eq
      refine ⟨few_len (by omega), fun ns R => ⟨fun _ H2 us B2 r2 i2 => ?_, fun big => absurd (takenL_len (sign := "+") R) (by omega)⟩⟩
      refine ⟨_, _, us, rfl, B1.trans B2, r2, i2, ?_⟩
      rw [List.take_add_one, hq]
      exact Adds.app ad ⟨_, ⟨ns, R, rfl⟩, rfl⟩
    · rintro σ H1 ⟨v3, ms, ys', rfl, B1, ra, ia, ad⟩
      rw [ll, List.take_length] at ad
      have lm := Adds.len ad asc l3
      have lm1 := its_len ia
      obtain ⟨da, ta, hda, hta⟩ := id ra
      obtain ⟨k1, k2⟩ := k ms ad
      have hl1 := B1 _ _ hl nl
      refine ⟨_, rfl, b, rfl, ite2 (fun hb => ?_) (fun hb => ?_)⟩
      · subst hb
        refine ⟨_, rfl, _, rfl, a, da, _, rfl, hda, a, ys', rfl, ra, by omega, ys'.length, rfl, by omega, ?_⟩
        refine ⟨a, da, _, rfl, hda, a, _, _, ys', ms, rfl, ra, ia, by omega, fun _ d H2 s2 g2 => ?_, fun h0 h1 => absurd h1 (by omega)⟩
        rw [lm1] at g2
        exact k2 rfl d H2 ys' (B1.trans (But.of s2)) (ra.same s2) g2
      · have hb : b = false := by simpa using hb
        refine ⟨_, rfl, .ref l, rs.length, rfl, .inl ⟨_, SqL.of hl1, rfl⟩, ?_⟩
        rw [ll]
        exact k1 hb H1 ys' B1 ra ia
end
end K09
/-! Tw: with e as y: suite, e an object of an own class; the suite may raise: __exit__ is called with the error and lets it go on. -/
namespace Tw
open PySem PySem.Spec PyProof.Rows L2 He
/-- what a def promises that runs while an exception is handled around it; it raises nothing -/
def FnX (P : Program) (w : World) (K : Fg) (mg : Str → Option Value) (base : Heap) (k : Nat) (f : Addr) (sp : Sp) : Prop :=
  ∀ (A : Around) (outer : List Env) (s : Shared) (H : Hp) (us : List Value) (vs : List V) (Q : VK) (p : Addr × Obj), L2H.RoomH k A → L2H.PinOk outer H s p → Env0 P w K mg base A outer s H → Vals vs us → sp vs H Q E0 →
    codeAny (model P w) A (.call (.ref f) ⟨us, []⟩) (CR CX0 outer P w H s Q E0) s
theorem fnX_of {P : Program} {w : World} {K : Fg} {mg : Str → Option Value} {base : Heap} {x qual : Str} {params : Arguments} {body : List Stmt} {scope : Scope} {f : Addr} {fd : FuncData} {N ps : List Str} {k : Nat} {sp : Sp}
    (F : FunD K x qual params body scope [] [] f fd) (S : FnScope N ps scope) (hb : Binds K fd ps []) (len : ∀ vs H Q E, sp vs H Q E → vs.length = ps.length)
    (hbody : ∀ (cdv : Value) (A : Around) (outer : List Env) (s : Shared) (H : Hp) (vs : List V) (Q : VK) (p : Addr × Obj), L2H.RoomH k (A.deeper (envOfC qual scope s.heap.objs.size f cdv)) → sp vs H Q E0 →
      ∃ t, PSs (L2H.cxH CX0 P w K mg base N qual scope f cdv A outer s H E0 p) body t ∧ t { nx := fun _ H' => Q .non H', rt := Q } (start N vs) H) : FnX P w K mg base (k + 1) f sp := by
  obtain ⟨oc, od, dV, kV, doc, pm, an, cdv, ct, osl, rfl, lk, hcd, _, _⟩ := F.ex
  intro A outer s H us vs Q p hr hp e0 r hsp
  have hl : us.length = ps.length := by
    rw [← r.length]
    exact len _ _ _ _ hsp
  have KX : K.In s.heap := e0.mod.kin.keeps fun b o e => (e0.bs b o e).1
  have lim : s.heap.NoLimit := e0.mod.nolimit.keeps fun b o e => (e0.bs b o e).1
  have bs := hb s us KX (by rw [List.append_nil]; exact hl)
  rw [List.append_nil] at bs
  have kinds : ∀ y ∈ ps.zip us, scope.names.lookup y.1 = some .local ∨ (scope.names.lookup y.1 = some .cell ∧ ((cellsFrom (s.heap.objs.size + 1) scope.names []).lookup y.1).isSome = true) := fun ⟨n, v⟩ hy => by
    have := S.par n (List.of_mem_zip hy).1
    rcases this with q | q
    · exact .inl q
    · exact .inr ⟨q, PySem.W.cellsFrom_some _ _ _ (.inl q)⟩
  refine codeAny_call_function hr.depth (KX _ _ lk) rfl S.co S.gen rfl (PySem.W.codeRec_of KX hcd) (bs _ _ _ _ ?_)
  refine wpAny_newFunctionEnv_cells S.kind kinds fun env he s1 x => ?_
  subst he
  refine ⟨lim.keeps x.toInCall.keep, codeAny_func ?_⟩
  obtain ⟨t, ht, hq⟩ := hbody cdv A outer s H vs Q p (hr.deeper _) hsp
  refine wpAny_mono (ht.run [] s1 (start N vs) H _ (L2H.inv_startH S hp e0 (len _ _ _ _ hsp) r x) hq) (fun fl s' hs => ?_) fun e s' hs => hs
  cases fl with
  | ret u =>
    obtain ⟨v, σ', H', J, rv, q⟩ := hs
    exact ⟨v, H', J.os, J.bare, J.base, J.hok, rv, q⟩
  | next =>
    obtain ⟨σ', H', J, q⟩ := hs
    exact ⟨.non, H', J.os, J.bare, J.base, J.hok, rfl, q⟩
  | brk =>
    obtain ⟨_, _, _, q⟩ := hs
    exact q.elim
  | cont =>
    obtain ⟨_, _, _, q⟩ := hs
    exact q.elim
/-- what is wished of an error of the suite: __exit__ gives None, then Wout -/
def wExit (spX : Sp) (m : V) (Wout : WX) : WX := fun cls d σ H => ∃ kv : V, RelV kv cls ∧ ∀ ev tv : V, spX [m, kv, ev, tv] H (fun r H' => r = .non ∧ Wout cls d σ H') E0
/-- what is wished of the suite's end: __exit__ is called with Nones -/
def dExit (spX : Sp) (m : V) (D : Ends) : Ends where
  nx := fun σ H => spX [m, .non, .non, .non] H (fun _ H' => D.nx σ H') E0
  rt := fun v H => spX [m, .non, .non, .non] H (fun _ H' => D.rt v H') E0
  bk := fun σ H => spX [m, .non, .non, .non] H (fun _ H' => D.bk σ H') E0
  ct := fun σ H => spX [m, .non, .non, .non] H (fun _ H' => D.ct σ H') E0
def tWith (i : Nat) (C : Addr) (spE spX : Sp) (tc : TE) (tb : WX → TS) (Wout : WX) : TS := fun D σ H => tc σ H fun m H1 => ∃ x dx fs, m = .ref x ∧ H1 x = some (.ins C dx fs) ∧ spE [m] H1 (fun v H2 => tb (wExit spX m Wout) (dExit spX m D) (σ.set i (some v)) H2) E0
section
variable {X : Cx} {i : Nat} {y : Str} {C fx x : Addr} {kx : Nat} {spX : Sp} {Wout : WX} {D : Ends}
/-- the call of __exit__ with the error, then on it goes -/
def ExitGo (X : Cx) (fx x : Addr) (pins : List (Addr × Obj)) (D : Ends) (e : Value) (s : Shared) : Prop := e ≠ byPass ∧ ∃ (cls tb : Value), PySem.W.Looks (model X.prog X.w) s.heap (typeOf e) cls ∧ PySem.W.Looks (model X.prog X.w) s.heap (tracebackOf e) tb ∧
  codeAny (model X.prog X.w) (X.A.mark (some e)) (.call (.ref fx) ⟨[.ref x, cls, e, tb], []⟩) (fun r s' => match r with | .ok (.ret v) => v = .none ∧ wpAny (model X.prog X.w) X.A (PySem.passOn "with" e X.env) (SP X pins D) X.xe s' | _ => False) s
theorem with_exc {pins : List (Addr × Obj)} {u : Value} {s' : Shared} {xe : Value → Shared → Prop} (hs : X.stack = X.env :: X.outer) (hf : X.env.frame = some X.env.locals) (hex : X.ex = []) (ok : X.Ok) (tk : Takes X Wout) (FH : FnX X.prog X.w X.K X.mg X.base kx fx spX) (hr : L2H.RoomH kx X.A)
    (xx : XE (X.tr (X.pn ++ pins) xe) (wExit spX (.ref x) Wout) u s') :
    wpAny (model X.prog X.w) X.A (noteFrame u X.env) (fun _ s₂ => wpAny (model X.prog X.w) X.A (setFlight u none) (fun _ s₃ => ExitGo X fx x pins D u s₃) X.xe s₂) X.xe s' := by
  have hfr : X.A.frames = some (X.env :: X.outer) := by rw [ok.frames, hs]
  obtain ⟨a, B, sI, pins', σ', H', cls, d, rfl, J', nb, up, sky, na, os, ag, kv, rk, hw⟩ := xx
  have J : Inv X pins σ' H' sI := J'.ofTry ok
  have sky' : Sky B (X.env :: X.outer) a (Zc cls d) X.env.locals s'.heap := by rw [← hs]; exact sky
  refine Sky.land Zc.steady hfr hf sky' fun h3 fl3 up3 => ?_
  have J3 : Inv X pins σ' H' { s' with heap := h3 } := J.landed nb fl3.1 (up.trans up3) os ag
  obtain ⟨k1, k2, k3, oe, vs, T, oT, ts, he3, hz, hd, hv1, hnT, hTe, hT, hdT, ht3⟩ := id fl3
  have nT : H' T = none := (J.inGround nb).gone hnT
  have out : ∀ {b : Addr} {o : Obj} {fv : Array Value}, h3.get? b = some o → o.data = .fields fv → b ∉ frs (X.env :: X.outer) := fun {b o fv} e dd hm => by
    obtain ⟨_, o', e', z⟩ := k3.mem hm
    rw [e] at e'
    cases e'
    exact z _ dd
  have sub : ∀ b, b ∉ frs (X.env :: X.outer) → b ≠ X.env.locals ∧ b ∉ X.fs := fun b hb => ⟨fun z => hb (List.mem_filterMap.mpr ⟨X.env, List.mem_cons_self, by rw [hf, z]⟩), fun z => hb (by
    obtain ⟨e, y1, y2⟩ := List.mem_filterMap.mp z
    exact List.mem_filterMap.mpr ⟨e, List.mem_cons_of_mem _ y1, y2⟩)⟩
  have fa := out he3 hd
  have fT := out hT hdT
  -- the state while __exit__ runs: the error and its traceback are pinned
  have S3 : Inv (X.suite a ((a, oe) :: (T, oT) :: (X.pn ++ pins))) [] σ' H' { s' with heap := h3 } := by
    refine ⟨J3.ok.suite _ _, J3.os, J3.bare, J3.base, J3.loc, J3.cell, J3.free, J3.freeC, fun p hp => ?_, J3.hok, J3.len⟩
    rw [List.append_nil] at hp
    simp only [List.mem_cons] at hp
    rcases hp with rfl | rfl | hp
    · exact ⟨he3, na, (sub _ fa).1, (sub _ fa).2, fun v (z : oe.data = .cell v) => by rw [hd] at z; cases z⟩
    · exact ⟨hT, nT, (sub _ fT).1, (sub _ fT).2, fun v (z : oT.data = .cell v) => by rw [hdT] at z; cases z⟩
    · exact J3.pin p hp
  have L1 : PySem.W.Looks (model X.prog X.w) h3 (typeOf (.ref a)) cls := fun A Q E s k q => wpAny_typeOf_ref (k _ _ he3) (by rw [hz.1]; exact q)
  have z1 : 1 < ts.size := by
    have := (Array.getElem?_eq_some_iff.mp ht3).1
    omega
  have t1 : ts[1]? = some ts[1] := Array.getElem?_eq_getElem z1
  obtain ⟨tv, tb, rt, L2'⟩ : ∃ (tv : V) (tb : Value), RelV tv tb ∧ PySem.W.Looks (model X.prog X.w) h3 (tracebackOf (.ref a)) tb := by
    by_cases hn : (ts[1] == Value.none) = true
    · refine ⟨.non, .none, rfl, fun A Q E s k q => ?_⟩
      unfold tracebackOf
      refine wpAny_bind (wpAny_field (k _ _ he3) hd hv1 ?_)
      refine wpAny_bind (wpAny_field (k _ _ hT) hdT t1 ?_)
      rw [if_pos hn]
      exact wpAny_pure q
    · refine ⟨.ref T, .ref T, rfl, fun A Q E s k q => ?_⟩
      unfold tracebackOf
      refine wpAny_bind (wpAny_field (k _ _ he3) hd hv1 ?_)
      refine wpAny_bind (wpAny_field (k _ _ hT) hdT t1 ?_)
      rw [if_neg hn]
      exact wpAny_pure q
  refine ⟨ref_ne_byPass a, cls, tb, L1, L2', ?_⟩
  have pin : L2H.PinOk X.stack H' { s' with heap := h3 } (a, oe) := ⟨he3, na, by rw [hs]; exact fa, fun v (z : oe.data = .cell v) => by rw [hd] at z; cases z⟩
  refine codeAny_mono (FH (X.A.mark (some (.ref a))) X.stack _ H' [.ref x, cls, .ref a, tb] [.ref x, kv, .ref a, tv] _ (a, oe) ⟨hr.dp, hr.un⟩ pin S3.env0 (.cons rfl (.cons rk (.cons rfl (.cons rt .nil)))) (hw (.ref a) tv)) fun r s6 hq => ?_
  cases r with
  | error e => exact hq.elim
  | ok fl =>
  cases fl with
  | next => exact hq.elim
  | brk => exact hq.elim
  | cont => exact hq.elim
  | ret u =>
  obtain ⟨v6, H6, S6, r6, ev, q6⟩ := S3.after (Q := fun r H6 => r = .non ∧ Wout cls d σ' H6) hq
  subst ev
  obtain rfl : u = Value.none := r6
  refine ⟨rfl, ?_⟩
  have J6 : Inv X pins σ' H6 s6 := ⟨ok, S6.os, S6.bare, S6.base, S6.loc, S6.cell, S6.free, S6.freeC, fun p hp => S6.pin p (List.mem_append_left _ (List.mem_cons_of_mem _ (List.mem_cons_of_mem _ hp))), S6.hok, S6.len⟩
  obtain ⟨ga, na6, _⟩ := S6.pin (a, oe) (List.mem_append_left _ List.mem_cons_self)
  obtain ⟨gT, nT6, _⟩ := S6.pin (T, oT) (List.mem_append_left _ (List.mem_cons_of_mem _ List.mem_cons_self))
  have ga : s6.heap.get? a = some oe := ga
  have gT : s6.heap.get? T = some oT := gT
  -- nothing of ours is the error's
  have far : ∀ b o, sI.heap.get? b = some o → b ≠ a ∧ b ≠ T := fun b o e => by
    by_cases hb : b ∈ frs X.stack
    · rw [hs] at hb
      exact ⟨fun z => fa (z ▸ hb), fun z => fT (z ▸ hb)⟩
    · have q := nb b o e hb
      refine ⟨fun z => ?_, fun z => ?_⟩
      · rw [z, k2] at q
        cases q
      · rw [z, hnT] at q
        cases q
  obtain ⟨G, g1, g2⟩ := restrict s6.heap fun b => !(decide (b = a) || decide (b = T))
  have gIn : ∀ b o, G.get? b = some o → s6.heap.get? b = some o ∧ b ≠ a ∧ b ≠ T := fun b o e => by
    cases q : (!(decide (b = a) || decide (b = T))) with
    | false =>
      rw [g2 b q] at e
      cases e
    | true =>
      rw [g1 b q] at e
      simp only [Bool.not_eq_true', Bool.or_eq_false_iff, decide_eq_false_iff_not] at q
      exact ⟨e, q⟩
  have I6 : Inv X pins σ' H6 { s6 with heap := G } := by
    refine J6.less (fun b o e => (gIn b o e).1) (fun b o n1 n2 e => ?_) ⟨oe, vs, ga, hd⟩ ⟨oT, ts, gT, hdT⟩ na6 nT6 (fun b o e => ?_) fun p hp => far p.1 p.2 (J.pin p hp).1
    · rw [g1 b (by simp [n1, n2])]
      exact e
    · obtain ⟨o', q⟩ := J.base.there b o e (by rw [hex]; simp)
      exact far b o' q
  have gone : ∀ b, (b = a ∨ b = T) → (PySem.W.hideAll G (frs X.stack)).get? b = none := fun b hb => by
    cases q : (PySem.W.hideAll G (frs X.stack)).get? b with
    | none => rfl
    | some o =>
      obtain ⟨_, n1, n2⟩ := gIn b o (PySem.W.of_hideAll _ q)
      exact (hb.elim n1 n2).elim
  have fl6 : HandSPX.FlyingZ (PySem.W.hideAll G (frs X.stack)) (X.env :: X.outer) a (Zc cls d) s6.heap := by
    refine ⟨fun b o e => (gIn b o (PySem.W.of_hideAll _ e)).1, gone a (.inl rfl), ?_, oe, vs, T, oT, ts, ga, hz, hd, hv1, gone T (.inr rfl), hTe, gT, hdT, ht3⟩
    rw [← hs]
    exact funFrames_none J6.stack fun b hb => PySem.W.hideAll_none _ hb
  unfold PySem.passOn
  refine wpAny_bind (wpAny_field ga hd hv1 ?_)
  rw [if_neg (show ¬ ((Value.ref T == Value.none) = true) from by simp)]
  have goOn : wpAny (model X.prog X.w) X.A (setFlight (.ref a) X.env.frame) (fun _ s7 => wpAny (model X.prog X.w) X.A (throw (.ref a) : Sem Flow) (SP X pins D) X.xe s7) X.xe s6 := by
    rw [hf]
    refine HandSPX.setFlight_upZ fl6 fun h7 hh7 up7 => wpAny_throw (tk _ _ ⟨a, PySem.W.hideAll G (frs X.stack), { s6 with heap := G }, pins, σ', H6, cls, d, rfl, I6, fun b o e hb => PySem.W.hideAll_get _ e hb, ?_, .inr (.inr ?_), na6, rfl, J6.bare, q6⟩)
    · exact Heap.UpToSlots.trans (Heap.UpToSlots.of_keeps fun b o e => (gIn b o e).1) up7
    · rw [← hs] at hh7
      exact hh7
  first
    | exact wpAny_bind (wpAny_pure (wpAny_bind goOn))
    | exact wpAny_bind goOn
theorem ps_withX {ctx : Expr} {py pos : Pos} {body : List Stmt} {fe : Addr} {fdE fdX : FuncData} {psE psX : List Str} {spE : Sp} {ke : Nat} {tc : TE} {tb : WX → TS}
    (hs : X.stack = X.env :: X.outer) (hf : X.env.frame = some X.env.locals) (hex : X.ex = []) (tk : Takes X Wout) (hc : PE X ctx tc)
    (ae : PySem.W.findIn X.K (.ref C) "__enter__" = some (some (.ref fe))) (ne : PySem.W.isFn X.K (.ref fe) = true) (ax : PySem.W.findIn X.K (.ref C) "__exit__" = some (some (.ref fx))) (nx : PySem.W.isFn X.K (.ref fx) = true)
    (FE : FnOk X.prog X.w X.K X.mg X.base CX0 ke fe fdE psE spE) (hre : Room ke X.A) (be : Binds X.K fdE psE [])
    (FX : FnOk X.prog X.w X.K X.mg X.base CX0 kx fx fdX psX spX) (hrx : Room kx X.A) (bx : Binds X.K fdX psX []) (FH : FnX X.prog X.w X.K X.mg X.base kx fx spX)
    (hN : X.N.Nodup) (hi : X.N[i]? = some y) (hl : Loc X.env.scope y) (hfn : X.fn y = true ∨ X.env.scope.names.lookup y = some .local)
    (hb : ∀ (W : WX) (pn : List (Addr × Obj)) (xe : Value → Shared → Prop), Takes (X.tr pn xe) W → PassesOwn (model X.prog X.w) X.A X.env xe → PSs (X.tr pn xe) body (tb W)) :
    PS X (.With [⟨ctx, some (.Name y py)⟩] body pos) (tWith i C spE spX tc tb Wout) := by
  refine ⟨fun pins s σ H D I h => ?_⟩
  have ok := I.ok
  rw [arm_exec_With]
  refine wpAny_bind (wpAny_standAt ?_)
  rw [arm_withItems_cons, arm_withItems_nil]
  unfold withItem
  refine wpAny_bind (thn (hc.run pins s σ H _ I h) fun u s1 hq => ?_)
  obtain ⟨m, H1, I1, rm, x, dx, fs, rfl, hx, hsp⟩ := hq
  obtain rfl : u = Value.ref x := rm
  obtain ⟨cd, hcd, ae'⟩ := PySem.W.kw_along ae
  obtain ⟨cd', hcd', ax'⟩ := PySem.W.kw_along ax
  cases hcd.symm.trans hcd'
  obtain ⟨mA, O, _⟩ := ins_get I1.hok hx
  obtain ⟨od, II, _⟩ := O.look
  have L1 : PySem.W.Looks (model X.prog X.w) s1.heap (specialOnItsLine (.ref x) "__enter__") (some (.ref fe), cd.mro) := PySem.W.kw_special I1.kIn II hcd ae'
  have L2a : PySem.W.Looks (model X.prog X.w) s1.heap (specialOnItsLine (.ref x) "__exit__") (some (.ref fx), cd.mro) := PySem.W.kw_special I1.kIn II hcd ax'
  have L3 : PySem.W.Looks (model X.prog X.w) s1.heap (bindSpecial (.ref fe) (.ref x)) (.ref fe, [.ref x]) := PySem.W.bind_fn I1.kIn _ (beq_iff_eq.mp ne)
  have L4 : PySem.W.Looks (model X.prog X.w) s1.heap (bindSpecial (.ref fx) (.ref x)) (.ref fx, [.ref x]) := PySem.W.bind_fn I1.kIn _ (beq_iff_eq.mp nx)
  have L5 : PySem.W.Looks (model X.prog X.w) s1.heap (aMethodOfAnotherBuiltinTypeStops (.ref fe) cd.mro) () := PySem.W.Looks.of_pure rfl
  have L6 : PySem.W.Looks (model X.prog X.w) s1.heap (aMethodOfAnotherBuiltinTypeStops (.ref fx) cd.mro) () := PySem.W.Looks.of_pure rfl
  have go1 : wpAny (model X.prog X.w) X.A (call (.ref fe) [.ref x]) (EP X pins σ fun v H2 => tb (wExit spX (.ref x) Wout) (dExit spX (.ref x) D) (σ.set i (some v)) H2) X.xe s1 :=
    run_fnS (us := [.ref x]) (vs := [.ref x]) (E := fun _ => E0) FE hre be (fun _ _ _ _ _ _ z => z.elim) I1 (.cons rfl .nil) hsp
  refine wpAny_bind (wpAny_standAt ?_)
  simp only [Bool.false_eq_true, if_false]
  kw_lk
  refine thn go1 fun v s2 hq2 => ?_
  obtain ⟨vv, H2, I2, rv, q2⟩ := hq2
  kw_lk
  refine wpAny_attempt (PySem.W.kw_held ?_)
  show wpAny _ _ (assign (.Name y py) X.env v >>= fun _ => execs body X.env) _ _ _
  refine wpAny_bind (wpAny_assign_Name (store_ok I2 hN hi hl rv (fun s3 I3 => ?_) hfn))
  refine wpAny_mono ((hb (wExit spX (.ref x) Wout) (X.pn ++ pins) (fun e s₁ => wpAny (model X.prog X.w) X.A (noteFrame e X.env) (fun _ s₂ => wpAny (model X.prog X.w) X.A (setFlight e none) (fun _ s₃ => ExitGo X fx x pins D e s₃) X.xe s₂) X.xe s₁)
    (fun u s' xx => with_exc hs hf hex ok tk FH ⟨hrx.dp, hrx.un⟩ xx) PassesOwn.looking).run [] s3 _ H2 _ (I3.toTry _) q2) (fun f s4 hsp4 => ?_) fun e s4 he => ?_
  · -- the suite's end
    have ex : ∀ {σ4 : L2.St} {H4 : Hp} {R : Hp → Prop} {Q : Value → Shared → Prop}, Inv X pins σ4 H4 s4 → spX [.ref x, .non, .non, .non] H4 (fun _ H5 => R H5) E0 → (∀ u s5 H5, Inv X pins σ4 H5 s5 → R H5 → Q u s5) → wpAny (model X.prog X.w) X.A (call (.ref fx) [.ref x, .none, .none, .none]) Q X.xe s4 := fun {σ4 H4 R Q} I4 q4 k =>
      thn (run_fnS (us := [.ref x, .none, .none, .none]) (vs := [.ref x, .non, .non, .non]) (E := fun _ => E0) FX hrx bx (fun _ _ _ _ _ _ z => z.elim) I4 (.cons rfl (.cons rfl (.cons rfl (.cons rfl .nil)))) q4) fun u s5 ⟨_, H5, I5, _, r5⟩ => k u s5 H5 I5 r5
    cases f with
    | next =>
      obtain ⟨σ4, H4, I4, q4⟩ := hsp4
      kw_lk
      refine ex (I4.ofTry ok) q4 fun u s5 H5 I5 r5 => ?_
      kw_lk
      exact ⟨_, _, I5, r5⟩
    | brk =>
      obtain ⟨σ4, H4, I4, q4⟩ := hsp4
      kw_lk
      refine ex (I4.ofTry ok) q4 fun u s5 H5 I5 r5 => ?_
      kw_lk
      exact ⟨_, _, I5, r5⟩
    | cont =>
      obtain ⟨σ4, H4, I4, q4⟩ := hsp4
      kw_lk
      refine ex (I4.ofTry ok) q4 fun u s5 H5 I5 r5 => ?_
      kw_lk
      exact ⟨_, _, I5, r5⟩
    | ret w =>
      obtain ⟨v4, σ4, H4, I4, r4, q4⟩ := hsp4
      kw_lk
      refine ex (I4.ofTry ok) q4 fun u s5 H5 I5 r5 => ?_
      kw_lk
      exact ⟨_, _, _, I5, r4, r5⟩
  · refine wpAny_bind (wpAny_mono he (fun _ s5 h5 => wpAny_bind (wpAny_mono h5 (fun _ s6 h6 => ?_) fun _ _ z => z)) fun _ _ z => z)
    obtain ⟨y0, cls, tb, y1, y2, y3⟩ := h6
    refine wpAny_bind (wpAny_standAt (wpAny_holding ?_))
    refine wpAny_bind (y1.at (wpAny_bind (y2.at (wpAny_bind ?_))))
    unfold withItem.marked
    refine wpAny_bind (wpAny_run (codeAny_mono y3 fun r s7 hr => ?_) (fun z => ?_))
    · match r, hr with
      | .ok (.ret v), hr =>
        obtain ⟨rfl, hr⟩ := hr
        refine wpAny_pure ?_
        refine wpAny_bind (wpAny_pure ?_)
        refine wpAny_bind (wpAny_pure ?_)
        rw [if_neg (by decide)]
        exact hr
    · exact y0 (Option.some.inj z)
end
end Tw
namespace K09
open PySem PySem.Spec PyProof.Rows L2 He Tw
abbrev s_tx : Stmt := inClass (topS 25) 2
abbrev N_tx : List Str := ["self", "kind", "value", "trace", "owner"]
theorem sc_tx : FnScope N_tx ["self", "kind", "value", "trace"] (defScope s_tx) := ⟨rfl, rfl, rfl, by decide +kernel, rfl, by decide +kernel, by decide +kernel⟩
def spTx (K : Fg) : Sp := fun vs H Q _ => ∃ (t a s0 dx s1 : Addr) (k e tv : V), vs = [.ref t, k, e, tv] ∧ TrAt K H t a s0 ∧ H a = some (.ins (ga K "Row") dx [("state", .ref s1)]) ∧ (k = .non → Q .non H) ∧ (k ≠ .non → Q .non (upd H a (.ins (ga K "Row") dx [("state", .ref s0)])))
section
variable {P : Program} {w : World} {K : Fg} {mg : Str → Option Value} {base : Heap} {fd : Nat → FuncData}
theorem tx_len {K : Fg} : ∀ vs H Q E, spTx K vs H Q E → vs.length = (["self", "kind", "value", "trace"] : List Str).length := fun vs H Q E h => by
  obtain ⟨t, a, s0, dx, s1, k, e, tv, rfl, _⟩ := h
  rfl
theorem ok_tx {f : Addr} {fd : FuncData} (F : FnP K "__exit__" "Trial.__exit__" s_tx f fd) (T : Txt K mg) : FnOk P w K mg base CX0 1 f fd ["self", "kind", "value", "trace"] (spTx K) := by
  refine F.ok sc_tx tx_len (fun cdv A outer s H vs Q E hr h => ?_)
  obtain ⟨t, a, s0, dx, s1, k, e, tv, rfl, ⟨dt, ht⟩, ha, k1, k2⟩ := h
  refine ⟨_, PSs.nox (pss_cons (ps_set (i := 4) sc_tx.nd rfl (Or.inl rfl) (pe_fld (pv 0) rfl)) (pss_one (ps_if (pt_cmpR op_notN (pv 1) pe_non (nomark _)) (pss_one (ps_fld (pv 4) (pe_fld (pv 0) rfl) rfl)) pss_nil))), ?_⟩
  refine ⟨_, rfl, t, _, dt, _, _, rfl, ht, T.clsT, T.naT (by decide +kernel), rfl, ?_⟩
  refine ⟨_, rfl, rfl, _, rfl, ite2 (fun hk => ?_) (fun hk => ?_)⟩
  · refine ⟨_, rfl, t, _, dt, _, _, rfl, ht, T.clsT, T.naT (by decide +kernel), rfl, _, rfl, a, _, dx, _, rfl, ha, T.clsR, T.naR, (by show 1 < 1000; decide), ?_⟩
    exact k2 (by simpa using hk)
  · exact k1 (by simpa using hk)
theorem ok_txH {f : Addr} {fd : FuncData} (F : FnP K "__exit__" "Trial.__exit__" s_tx f fd) (T : Txt K mg) : FnX P w K mg base 1 f (spTx K) := by
  have b : Binds K fd ["self", "kind", "value", "trace"] [] := F.bindsN fun _ _ _ _ _ _ us hl => match us, hl with | [_, _, _, _], _ => rfl
  refine fnX_of F sc_tx b tx_len (fun cdv A outer s H vs Q p hr h => ?_)
  obtain ⟨t, a, s0, dx, s1, k, e, tv, rfl, ⟨dt, ht⟩, ha, k1, k2⟩ := h
  refine ⟨_, (pss_cons (ps_set (i := 4) sc_tx.nd rfl (Or.inl rfl) (pe_fld (pv 0) rfl)) (pss_one (ps_if (pt_cmpR op_notN (pv 1) pe_non (nomark _)) (pss_one (ps_fld (pv 4) (pe_fld (pv 0) rfl) rfl)) pss_nil))), ?_⟩
  refine ⟨_, rfl, t, _, dt, _, _, rfl, ht, T.clsT, T.naT (by decide +kernel), rfl, ?_⟩
  refine ⟨_, rfl, rfl, _, rfl, ite2 (fun hk => ?_) (fun hk => ?_)⟩
  · refine ⟨_, rfl, t, _, dt, _, _, rfl, ht, T.clsT, T.naT (by decide +kernel), rfl, _, rfl, a, _, dx, _, rfl, ha, T.clsR, T.naR, (by show 1 < 1000; decide), ?_⟩
    exact k2 (by simpa using hk)
  · exact k1 (by simpa using hk)
abbrev s_at : Stmt := inClass (topS 27) 34
abbrev N_at : List Str := ["self", "deed", "held"]
theorem sc_at : FnScope N_at ["self", "deed"] (defScope s_at) := ⟨rfl, rfl, rfl, by decide +kernel, rfl, by decide +kernel, by decide +kernel⟩
/-- the deed ends by Dn or raises by Fl; what it raises is let on, the row as it was -/
def spAt (n : Nat) (P : Program) (w : World) (K : Fg) (mg : Str → Option Value) (base : Heap) : Sp := fun vs H Q E => ∃ (a f s0 : Addr) (sl : Sp) (Dn : V → Hp → Prop) (Fl : Value → Option Addr → Hp → Prop), vs = [.ref a, .ref f] ∧ StAt K H a s0 ∧ PySem.W.FnAt f base ∧ FnR P w K mg base (L2.CX P w) n f sl ∧
  (∀ (H1 : Hp) (Q1 : VK) (E1 : XK), Same H H1 → (∀ v H2, ButN a H1 H2 → (∃ s1, StAt K H2 a s1) → Dn v H2 → Q1 v H2) → (∀ cls d H2, ButN a H1 H2 → (∃ s1, StAt K H2 a s1) → (∃ kv, RelV kv cls ∧ kv ≠ .non) → Fl cls d H2 → E1 cls d H2) → sl [.ref a] H1 Q1 E1) ∧
  (∀ v H2, Dn v H2 → Q v H2) ∧ (∀ cls d H2 H3, Fl cls d H2 → But a H2 H3 → StAt K H3 a s0 → E cls d H3)
theorem G_at {n : Nat} (hn : 3 ≤ n) (D : DefsK K fd) (T : Txt K mg) : FnOk P w K mg base (L2.CX P w) (n + 1) (ma K (ga K "Row") "attempt") (fd 48) ["self", "deed"] (spAt n P w K mg base) := by
  have FR : FnP K "trial" "Row.trial" s_tri (ma K (ga K "Row") "trial") (fd 47) := D 47 _ rfl
  have GR : FnOk P w K mg base CX0 3 _ (fd 47) ["self"] (spTri K) := ok_tri D FR T
  have bR : Binds K (fd 47) ["self"] [] := FR.bindsN fun _ _ _ _ _ _ us hl => match us, hl with | [_], _ => rfl
  have FE : FnP K "__enter__" "Trial.__enter__" s_te (ma K (ga K "Trial") "__enter__") (fd 50) := D 50 _ rfl
  have GE : FnOk P w K mg base CX0 1 _ (fd 50) ["self"] (spTe K) := ok_te FE T
  have bE : Binds K (fd 50) ["self"] [] := FE.bindsN fun _ _ _ _ _ _ us hl => match us, hl with | [_], _ => rfl
  have FX : FnP K "__exit__" "Trial.__exit__" s_tx (ma K (ga K "Trial") "__exit__") (fd 51) := D 51 _ rfl
  have GX : FnOk P w K mg base CX0 1 _ (fd 51) ["self", "kind", "value", "trace"] (spTx K) := ok_tx FX T
  have GH : FnX P w K mg base 1 _ (spTx K) := ok_txH FX T
  have bX : Binds K (fd 51) ["self", "kind", "value", "trace"] [] := FX.bindsN fun _ _ _ _ _ _ us hl => match us, hl with | [_, _, _, _], _ => rfl
  have mE := T.mtT (m := "__enter__") (by decide +kernel)
  have mX := T.mtT (m := "__exit__") (by decide +kernel)
  have mR := T.mtR2 (m := "trial") (by decide +kernel)
  have F : FnP K "attempt" "Row.attempt" s_at (ma K (ga K "Row") "attempt") (fd 48) := D 48 _ rfl
  refine F.ok sc_at (fun vs H Q E h => ?_) (fun cdv A outer s H vs Q E hr h => ?_)
  · obtain ⟨a, f, s0, sl, Dn, Fl, rfl, _⟩ := h
    rfl
  · obtain ⟨a, f, s0, sl, Dn, Fl, rfl, hs, hf, FL, hdeed, hdn, hfl⟩ := h
    refine ⟨_, (pss_one (ps_withX (i := 2) (y := "held") (C := ga K "Trial") (Wout := fun cls d _ H => E cls d H) (tb := fun W D σ H => ∃ Ech : XK, (∀ cls d σ' H', Ech cls d H' → W cls d σ' H') ∧ σ[1]? = some (some (.ref f)) ∧ ∃ v, σ[2]? = some (some v) ∧ sl [v] H (fun v H' => D.rt v H') Ech) rfl rfl rfl (takes_of rfl rfl rfl rfl)
      (pe_meth0 (E := E0) (pv 0) T.clsR mR GR (hr.mono hn) bR .nil pass0) mE.at_ mE.fn mX.at_ mX.fn GE (hr.mono (by omega)) bE GX (hr.mono (by omega)) bX GH sc_at.nd rfl (.inl rfl) (.inl rfl) (fun W pn xe tk ps => ?suite))), ?_⟩
    case suite =>
      refine ⟨fun pins s' σ H' D' I h' => ?_⟩
      obtain ⟨Ech, hW, h1, v, h2, h3⟩ := h'
      exact (pss_one (ps_ret (pe_callF (E := Ech) (i := 1) rfl (.inl rfl) hf FL hr (passes_call tk fun _ _ _ _ z => hW _ _ _ _ z) (pa_cons (pv 2) pa_nil)))).run pins s' σ H' D' I ⟨h1, v, h2, h3⟩
    · obtain ⟨da, hda⟩ := id hs
      refine ⟨_, rfl, a, da, _, rfl, hda, rfl, a, s0, rfl, hs, fun t H1 f1 s1 tr => ?_⟩
      obtain ⟨dt, hdt⟩ := id tr
      refine ⟨t, dt, _, rfl, hdt, t, a, s0, s0, rfl, tr, ⟨da, s1 _ _ hda⟩, fun H2 B2 tr2 => ?_⟩
      have s2 : Same H H2 := same_but s1 B2 f1
      have nta : t ≠ a := fun z => by
        rw [z, hda] at f1
        cases f1
      have keep : ∀ H3, ButN a H2 H3 → TrAt K H3 t a s0 := fun H3 bn => by
        obtain ⟨d2, h2⟩ := tr2
        exact ⟨d2, bn _ _ h2 nta fun _ z => nomatch z⟩
      refine ⟨fun cls d H' => ∃ kv : V, RelV kv cls ∧ ∀ ev tv : V, spTx K [.ref t, kv, ev, tv] H' (fun r H'' => r = .non ∧ E cls d H'') E0, fun _ _ _ _ z => z, rfl, .ref a, rfl, hdeed H2 _ _ s2 (fun v H3 bn st dn => ?_) fun cls d H3 bn st kv fl => ?_⟩
      · obtain ⟨s3, d3, h3⟩ := st
        exact ⟨t, a, s0, d3, s3, .non, .non, .non, rfl, keep H3 bn, h3, fun _ => hdn v H3 dn, fun z => absurd rfl z⟩
      · obtain ⟨s3, d3, h3⟩ := st
        obtain ⟨kv, rk, nk⟩ := kv
        exact ⟨kv, rk, fun ev tv => ⟨t, a, s0, d3, s3, kv, ev, tv, rfl, keep H3 bn, h3, fun z => absurd z nk, fun _ => ⟨rfl, hfl cls d H3 _ fl But.upd ⟨d3, upd_same⟩⟩⟩⟩
end
end K09
namespace K09
open PySem PySem.Spec PyProof.Rows L2 He Tw
def pd (q : Int × Str) : PyData := .tuple [.int q.1, .str q.2]
theorem dp_prs {K : Fg} {H : Hp} : ∀ {ts : List V} {ps : List (Int × Str)}, Prs H ts ps → DpAll K H ts (ps.map pd)
  | _, _, .nil => .nil
  | _, _, .cons ⟨t, h1, h2⟩ r => by
    subst h1
    exact .cons (.tup (SqT.of h2) (.cons (.int _) (.cons (.str _) .nil))) (dp_prs r)
theorem letters_lt : ∀ c ∈ letters.cps.toList, c < 128 := by decide +kernel
theorem text_strOk {z : Str} (h : textOk z = true) : PyData.strOk z = true := by
  unfold textOk at h
  unfold PyData.strOk
  rw [← Array.all_toList, List.all_eq_true]
  exact fun c hc => decide_eq_true (Nat.lt_trans (letters_lt c (of_decide_eq_true (List.all_eq_true.mp (ba h).2 c hc))) (by decide))
theorem lay_prs : ∀ {ps : List (Int × Str)}, (∀ q ∈ ps, textOk q.2 = true) → PyData.canLayAll0 (ps.map pd) = true ∧ PyData.depthAll (ps.map pd) ≤ 1
  | [], _ => ⟨rfl, Nat.zero_le _⟩
  | q :: ps, h => by
    obtain ⟨h1, h2⟩ := lay_prs (ps := ps) fun x hx => h x (List.mem_cons_of_mem _ hx)
    have h3 := text_strOk (h q List.mem_cons_self)
    constructor
    · simp only [List.map_cons, pd, PyData.canLayAll0, PyData.canLay0, h1, h3, Bool.and_self]
    · simp only [List.map_cons, pd, PyData.depthAll, PyData.depth]
      omega
theorem shaped_prs {ps : List (Int × Str)} (h : ∀ q ∈ ps, textOk q.2 = true) : SeqAt.shaped (.list (ps.map pd)) = true := by
  obtain ⟨h1, h2⟩ := lay_prs h
  simp only [SeqAt.shaped, PyData.canLay0, PyData.depth, h1, Bool.true_and]
  exact decide_eq_true (by omega)
theorem eqv_prs {ps : List (Int × Str)} (h : ∀ q ∈ ps, textOk q.2 = true) : PyData.eqv (.list (ps.map pd)) (.list (ps.map pd)) = true := SeqAt.eqv_refl _ (by
  have := (lay_prs h).1
  simpa [PyData.canLay0] using this)
theorem eqv_nil (q : Int × Str) (ps : List (Int × Str)) : PyData.eqv (.list ((q :: ps).map pd)) (.list []) = false := by simp [PyData.eqv, PyData.eqvAll]
theorem ne_pen {H : Hp} {b p l : Addr} {c : Nat} {o : HO} (P : PenL H p l c) (e : H b = some o) (n : ∀ xs, o ≠ .lst xs) : b ≠ p := fun z => by
  obtain ⟨ns, i, g, q1, _⟩ := P
  rw [z, q1] at e
  exact n _ (Option.some.inj e).symm
theorem rowBN {K : Fg} {H H' : Hp} {a p l : Addr} {c : Nat} {ys : List V} (h : RowAt K H a ys) (e : ButN p H H') (P : PenL H p l c) : RowAt K H' a ys := by
  obtain ⟨dx, t, h1, h2⟩ := h
  exact ⟨dx, t, e _ _ h1 (ne_pen P h1 fun _ z => nomatch z) (fun _ z => nomatch z), e _ _ h2 (ne_pen P h2 fun _ z => nomatch z) (fun _ z => nomatch z)⟩
theorem itsBN {K : Fg} {H H' : Hp} {p l : Addr} {c : Nat} (e : ButN p H H') (P : PenL H p l c) : ∀ {ys : List V} {ps : List (Int × Str)}, Its K H ys ps → Its K H' ys ps
  | _, _, .nil => .nil
  | _, _, .cons ⟨a, h1, dx, h2⟩ t => .cons ⟨a, h1, dx, e _ _ h2 (ne_pen P h2 fun _ z => nomatch z) (fun _ z => nomatch z)⟩ (itsBN e P t)
theorem prsBN {H H' : Hp} {p l : Addr} {c : Nat} {ts : List V} {ps : List (Int × Str)} (e : ButN p H H') (P : PenL H p l c) (h : Prs H ts ps) : Prs H' ts ps :=
  h.keep fun t xs g => e _ _ g (ne_pen P g fun _ z => nomatch z) (fun _ z => nomatch z)
theorem its_ext {K : Fg} {H H' : Hp} (e : LamX.ExtN H H') : ∀ {ys : List V} {ps : List (Int × Str)}, Its K H ys ps → Its K H' ys ps
  | _, _, .nil => .nil
  | _, _, .cons ⟨b, h1, dx, h2⟩ t => .cons ⟨b, h1, dx, e _ _ h2 fun _ z => nomatch z⟩ (its_ext e t)
theorem row_ext {K : Fg} {H H' : Hp} (e : LamX.ExtN H H') {a : Addr} {ys : List V} (h : RowAt K H a ys) : RowAt K H' a ys := by
  obtain ⟨dx, t, h1, h2⟩ := h
  exact ⟨dx, t, e _ _ h1 (fun _ z => nomatch z), e _ _ h2 (fun _ z => nomatch z)⟩
theorem rws_ext {K : Fg} {H H' : Hp} {a : Addr} (e : LamX.ExtN H H') : ∀ {rs : List V} {qss : List (List (Int × Str))}, Rws K H a rs qss → Rws K H' a rs qss
  | _, _, .nil => .nil
  | _, _, .cons ⟨r, zs, h1, h2, h3, h4, h5⟩ t => .cons ⟨r, zs, h1, h2, row_ext e h3, its_ext e h4, h5⟩ (rws_ext e t)
/-- but for a row (and the tables), the items stay -/
theorem its_butN {K : Fg} {H H' : Hp} {a dx : Addr} {fs : List (Str × V)} (ha : H a = some (.ins (ga K "Row") dx [("state", fs.headD ("", .non) |>.2)])) (e : ButN a H H') : ∀ {us : List V} {ps : List (Int × Str)}, Its K H us ps → Its K H' us ps
  | _, _, .nil => .nil
  | _, _, .cons ⟨b, h1, dx, h2⟩ t => .cons ⟨b, h1, dx, e _ _ h2 (fun z => by
    rw [z, ha] at h2
    have := Option.some.inj h2
    simp at this) fun _ z => nomatch z⟩ (its_butN ha e t)
theorem its_butA {K : Fg} {H H' : Hp} {a : Addr} {ys : List V} (ha : RowAt K H a ys) (e : ButN a H H') {us : List V} {ps : List (Int × Str)} (h : Its K H us ps) : Its K H' us ps := by
  obtain ⟨dx, t, h1, _⟩ := ha
  exact its_butN (fs := [("", .ref t)]) h1 e h
theorem prs_butA {K : Fg} {H H' : Hp} {a : Addr} {ys : List V} (ha : RowAt K H a ys) (e : ButN a H H') {us : List V} {ps : List (Int × Str)} (h : Prs H us ps) : Prs H' us ps := h.keep fun t xs g => e _ _ g (fun z => by
  obtain ⟨dx, t', h1, _⟩ := ha
  rw [z, h1] at g
  cases g) fun _ z => nomatch z
theorem rws_butA {K : Fg} {H H' : Hp} {a : Addr} {ys : List V} (ha : RowAt K H a ys) (e : ButN a H H') : ∀ {rs : List V} {qss : List (List (Int × Str))}, Rws K H a rs qss → Rws K H' a rs qss
  | _, _, .nil => .nil
  | _, _, .cons ⟨r, zs, h1, h2, ⟨dx, t, h3, h3'⟩, h4, h5⟩ tl => .cons ⟨r, zs, h1, h2, ⟨dx, t, e _ _ h3 h2 (fun _ z => nomatch z), e _ _ h3' (fun z => by
    obtain ⟨_, _, g1, _⟩ := ha
    rw [z, g1] at h3'
    cases h3') (fun _ z => nomatch z)⟩, its_butA ha e h4, h5⟩ (rws_butA ha e tl)
theorem lst_ne {K : Fg} {H : Hp} {a l : Addr} {ys rs : List V} (ha : RowAt K H a ys) (h : H l = some (.lst rs)) : l ≠ a := fun z => by
  obtain ⟨_, _, g1, _⟩ := ha
  rw [z, g1] at h
  cases h
end K09
namespace K09
open PySem PySem.Spec PyProof.Rows L2 He Tw
abbrev s_lost : Stmt := topS 43
abbrev N_lost : List Str := ["_law_row", "_law_some"]
theorem sc_lost : FnScope N_lost ["_law_row", "_law_some"] (defScope s_lost) := ⟨rfl, rfl, rfl, by decide +kernel, rfl, by decide +kernel, by decide +kernel⟩
def spLo (K : Fg) : Sp := fun vs H _ E => ∃ (a l : Addr) (ys rs : List V) (ps : List (Int × Str)) (qss : List (List (Int × Str))), vs = [.ref a, .ref l] ∧ RowAt K H a ys ∧ Its K H ys ps ∧ Asc ps ∧ H l = some (.lst rs) ∧ Rws K H a rs qss ∧ ps.length + 3 * qss.length < 64 ∧
  ∀ us, Adds ps qss us → ∀ (d : Option Addr) (H' : Hp) (ys' : List V), But a H H' → RowAt K H' a ys' → E (.type "KeyError") d H'
section
variable {P : Program} {w : World} {K : Fg} {mg : Str → Option Value} {base : Heap} {fd : Nat → FuncData}
theorem ok_lost (D : DefsK K fd) (T : Txt K mg) : FnOk P w K mg base (L2.CX P w) 11 (ga K "_law_lost") (fd 35) ["_law_row", "_law_some"] (spLo K) := by
  have gC := T.fn (x := "_law_changes") (by decide +kernel)
  have FC : FnP K "_law_changes" "_law_changes" s_chg (ga K "_law_changes") (fd 34) := D 34 _ rfl
  have GC : FnOk P w K mg base (L2.CX P w) 10 _ (fd 34) ["_law_row", "_law_some", "_law_is_bad"] (spCh K) := ok_chg D T
  have bC : Binds K (fd 34) ["_law_row", "_law_some", "_law_is_bad"] [] := FC.bindsN fun _ _ _ _ _ _ us hl => match us, hl with | [_, _, _], _ => rfl
  have F : FnP K "_law_lost" "_law_lost" s_lost (ga K "_law_lost") (fd 35) := D 35 _ rfl
  refine F.ok sc_lost (fun vs H Q E h => ?_) (fun cdv A outer s H vs Q E hr h => ?_)
  · obtain ⟨a, l, ys, rs, ps, qss, rfl, _⟩ := h
    rfl
  · obtain ⟨a, l, ys, rs, ps, qss, rfl, ha, its, asc, hl, hrs, few, k⟩ := h
    refine ⟨_, (pss_cons (ps_expr (pe_call (E := E) GC hr rfl gC FC.kp bC .nil (passes_call (takes_of rfl rfl rfl rfl) (fun _ _ _ _ h => h)) (pa_cons (pv 0) (pa_cons (pv 1) (pa_cons pe_bl pa_nil)))))
    (pss_one (ps_ret (pe_dgetX (W := fun cls d _ H => E cls d H) (by rfl) (u1 hr) (takes_of rfl rfl rfl rfl) (pe_disp (pps_cons pe_str pe_int pps_nil) (by rfl) (by rfl) (fun z => by cases z) (by decide)) pe_str (fun _ _ => rfl))))), ?_⟩
    refine ⟨_, rfl, _, rfl, a, l, false, ys, rs, ps, qss, rfl, ha, its, asc, hl, hrs, few, fun us ad => ⟨fun _ H1 ys' B1 ra ia => ?_, fun z => nomatch z⟩⟩
    intro p fp
    refine ⟨upd_same, [(.inr "one", .int 1)], rfl, by decide, ?_⟩
    rw [show mergeK [] [((.inr "one" : Key), V.int 1)] = [((.inr "one" : Key), V.int 1)] from rfl]
    have s1 : Same H1 (upd (upd H1 p (.dK [])) p (.dK [((.inr "one" : Key), V.int 1)])) := fun b o e => by
      rw [upd_ne (ne_of_none e fp), upd_ne (ne_of_none e fp)]
      exact e
    have g1 : (upd (upd H1 p (.dK [])) p (.dK [((.inr "one" : Key), V.int 1)])) p = some (.dK [((.inr "one" : Key), V.int 1)]) := upd_same
    generalize upd (upd H1 p (.dK [])) p (.dK [((.inr "one" : Key), V.int 1)]) = H2 at s1 g1 ⊢
    have hv : valV [((.inr "one" : Key), V.int 1)] (.inr "two") = none := by decide +kernel
    refine ⟨p, none, rfl, .inl ⟨_, .inr "two", .inl g1, rfl, hv.symm⟩, (fun v (z : (none : Option V) = some v) => by cases z), fun _ d => ?_⟩
    exact k us ad d H2 ys' (B1.trans (But.of s1)) (ra.same s1)
abbrev s_lr : Stmt := topS 44
abbrev N_lr : List Str := ["_law_row", "_law_some", "_law_pairs_here", "_law_is_lost"]
theorem sc_lr : FnScope N_lr ["_law_row", "_law_some", "_law_pairs_here"] (defScope s_lr) := ⟨rfl, rfl, rfl, by decide +kernel, rfl, by decide +kernel, by decide +kernel⟩
/-- the row is as it was, its own tuple too -/
def spLr (K : Fg) : Sp := fun vs H Q _ => ∃ (a l g dx t : Addr) (ys rs ts : List V) (ps : List (Int × Str)) (qss : List (List (Int × Str))), vs = [.ref a, .ref l, .ref g] ∧ H a = some (.ins (ga K "Row") dx [("state", .ref t)]) ∧ H t = some (.tup ys) ∧ Its K H ys ps ∧ Asc ps ∧ H l = some (.lst rs) ∧ Rws K H a rs qss ∧ ps.length + 3 * qss.length < 64 ∧ H g = some (.lst ts) ∧ Prs H ts ps ∧ (∀ q ∈ ps, Gd q) ∧ Tk K H ∧
  ∀ (H' : Hp), ButN a H H' → Tk K H' → (∃ dx', H' a = some (.ins (ga K "Row") dx' [("state", .ref t)])) → Q (.bl true) H'
theorem G_lr (D : DefsK K fd) (T : Txt K mg) (tb : TBs K mg base) : FnOk P w K mg base CX0 20 (ga K "_law_lost_right") (fd 36) ["_law_row", "_law_some", "_law_pairs_here"] (spLr K) := by
  have zK : mg "KeyError" = none := T.bl (by decide +kernel)
  have gL := T.fn (x := "_law_lost") (by decide +kernel)
  have gT := T.fn (x := "_law_told") (by decide +kernel)
  have FL : FnP K "_law_lost" "_law_lost" s_lost (ga K "_law_lost") (fd 35) := D 35 _ rfl
  have GL : ∀ base : Heap, FnOk P w K mg base (L2.CX P w) 11 _ (fd 35) ["_law_row", "_law_some"] (spLo K) := fun base => ok_lost D T
  have bL : Binds K (fd 35) ["_law_row", "_law_some"] [] := FL.bindsN fun _ _ _ _ _ _ us hl => match us, hl with | [_, _], _ => rfl
  have FT : FnP K "_law_told" "_law_told" s_told (ga K "_law_told") (fd 28) := D 28 _ rfl
  have GT : FnOk P w K mg base CX0 1 _ (fd 28) ["_law_listed"] (spTold K) := ok_told FT T
  have bT : Binds K (fd 28) ["_law_listed"] [] := FT.bindsN fun _ _ _ _ _ _ us hl => match us, hl with | [_], _ => rfl
  have FA : FnP K "attempt" "Row.attempt" s_at (ma K (ga K "Row") "attempt") (fd 48) := D 48 _ rfl
  have GA : ∀ base' : Heap, Sub base base' → FnOk P w K mg base' (L2.CX P w) 14 _ (fd 48) ["self", "deed"] (spAt 13 P w K mg base') := fun base' _ => G_at (by decide) D T
  have bA : KBn K (fd 48) ["self", "deed"] 1 ["deed"] (fun us ws => us ++ ws) (fun vs zs => vs ++ zs) := kbNone FA 1 ["deed"] fun _ _ _ _ _ _ us ws l1 l2 => match us, ws, l1, l2 with | [_], [_], _, _ => rfl
  have FLi : FnP K "listed" "Row.listed" s_lst (ma K (ga K "Row") "listed") (fd 8) := D 8 _ rfl
  have GLi : FnOk P w K mg base CX0 1 _ (fd 8) ["self"] (spListed K) := ok_lst FLi T
  have bLi : Binds K (fd 8) ["self"] [] := FLi.bindsN fun _ _ _ _ _ _ us hl => match us, hl with | [_], _ => rfl
  have mA := T.mtR2 (m := "attempt") (by decide +kernel)
  have mL := T.mtR (m := "listed") (by decide +kernel)
  have TB := tb (fun K => ga K "_law_lost_right") (by simp [tabs])
  have F : FnP K "_law_lost_right" "_law_lost_right" s_lr (ga K "_law_lost_right") (fd 36) := D 36 _ rfl
  obtain ⟨oc, od, dV, kV, doc, pm, an, cdv, ct, osl, e0, lk, hcd, _, _⟩ := F.ex
  rw [e0] at lk ⊢
  obtain ⟨cc, rfl⟩ := codeIn_ref hcd
  have ec : Tw.codeAt K (ga K "_law_lost_right") = cc := by
    unfold Tw.codeAt
    rw [lk]
  rw [ec] at TB
  refine fn_of lk hcd sc_lr (fun vs H Q E h => ?_) (fun A outer s H vs Q E hr h => ?_)
  · obtain ⟨a, l, g, dx, t, ys, rs, ts, ps, qss, rfl, _⟩ := h
    rfl
  · obtain ⟨a, l, g, dx, t, ys, rs, ts, ps, qss, rfl, ha, ht, its, asc, hl, hrs, few, hg, prs, hgd, hT, k⟩ := h
    refine ⟨_, PSs.nox (pss_cons (ps_set (i := 3) sc_lr.nd rfl (Or.inl rfl) pe_bl)
    (pss_cons (ps_try_only (c := .type "KeyError") (Wout := fun _ _ _ _ => False) rfl rfl (names_blt rfl zK boot_KeyError) L2.takes0
      (fun W pn xe tk _ => pss_one (ps_expr (pe_lamMK (host := host) (L := Tb K) (pre := fun _ => True) (k := 12) (xs := ["_law_held"]) (cs := ["_law_some"]) (caps := [1]) (tb := fun c' P' E => tCallS (spLo K) (fun _ => E) (tCons (tVar 0) (tCons (tVar 1) tNil))) (Pr := P) (wo := w) (K := K) (mg := mg) (qn := nm "_law_lost_right") (pv 0) T.clsR mA
        (by exact ⟨made_def TB rfl (show (tabAt K (ga K "_law_lost_right"), nm "_law_lost_right") ∈ Tb K from by simp [Tb]), bmIn TB, cellsOut_def (fun _ => rfl), lamQ_by (sc := defScope s_lr) (by decide +kernel), (caps_by (N := N_lr) (by decide +kernel)), rfl, by decide +kernel, rfl, (fun us _ _ _ _ _ hu => match us, hu with | [_], _ => rfl),
          (fun base A outer s1 H1 E f c' P' hsub hr2 hout => pe_callS (E := fun _ => E) (GL base) (hr2.mono (by decide)) rfl gL FL.kp bL (fun σ => fun pins H s e s' I c => (passes_call (takes_of rfl rfl rfl rfl) (fun _ _ _ _ h => h)) pins σ H s e s' I c) (pa_cons (pe_var (x := "_law_held") (i := 0) rfl (.inl rfl)) (pa_cons (pe_var (x := "_law_some") (i := 1) rfl (.inr (.inr rfl))) pa_nil)))⟩)
        GA (hr.mono (by decide)) (fun σ => passAt tk σ) bA)))
      (fun a oe cls d pn hz hf => pss_one (ps_set (i := 3) sc_lr.nd rfl (Or.inl rfl) pe_bl)))
    (pss_one (ps_ret (pe_and (pv 3) (pe_one (pe_cmpR (op_eqD hr.units) (pe_call (E := E0) GT (hr.mono (by decide)) rfl gT FT.kp bT .nil pass0 (pa_cons (pe_meth0 (E := E0) (pv 0) T.clsR mL GLi (hr.mono (by decide)) bLi .nil pass0) pa_nil)) (pv 2) (nomark _)))))))), ?_⟩
    refine ⟨_, rfl, a, dx, _, rfl, ha, rfl, hT, trivial, fun f c' P' H1 base' e1 T1 _ hc hfa FL => ?_⟩
    have n0 : ∀ {Hx : Hp} {b : Addr} {xs : List V}, Hx a = some (.ins (ga K "Row") dx [("state", .ref t)]) → (Hx b = some (.lst xs) ∨ Hx b = some (.tup xs)) → b ≠ a := fun {Hx b xs} h1 h2 z => by
      rw [z, h1] at h2
      rcases h2 with h2 | h2 <;> cases h2
    have ext : ∀ b u, H b = some u → (∀ xs, u ≠ .tbl xs) → H1 b = some u := fun b u h n => e1 b u h n
    have ha1 := ext _ _ ha fun _ z => nomatch z
    have ht1 := ext _ _ ht fun _ z => nomatch z
    have ra0 : RowAt K H a ys := ⟨dx, t, ha, ht⟩
    have ra1 : RowAt K H1 a ys := ⟨dx, t, ha1, ht1⟩
    refine ⟨a, f, t, _, fun _ _ => False, fun cls d H2 => cls = .type "KeyError" ∧ ButN a H H2 ∧ Tk K H2 ∧ (∃ s1, StAt K H2 a s1), rfl, ⟨dx, ha1⟩, hfa, FL, fun H2 Q1 E1 s2 _ fail => ?_, fun _ _ z => z.elim, fun cls d H3 H4 fl B4 st => ?_⟩
    · refine ⟨rfl, s2 _ _ hc, _, rfl, _, rfl, a, l, ys, rs, ps, qss, rfl, ra1.same s2, (its_ext e1 its).same s2, asc, s2 _ _ (ext _ _ hl fun _ z => nomatch z), (rws_ext e1 hrs).same s2, few, fun us ad d H' ys' B ra => ?_⟩
      obtain ⟨d3, t3, h3, _⟩ := ra
      refine fail _ d H' (ButN.but B) ⟨t3, d3, h3⟩ ⟨.ty "KeyError", rfl, fun z => nomatch z⟩ ⟨rfl, fun b u h n1 n2 => B _ _ (s2 _ _ (ext b u h n2)) n1, tbn_but (Tbn.ext T1 s2) B ⟨_, _, _, s2 _ _ ha1⟩, t3, d3, h3⟩
    · obtain ⟨rfl, bn, T3, st2⟩ := fl
      obtain ⟨d4, ha4⟩ := st
      refine ⟨true, exm_KE, fun _ b hb => ?_, fun z => nomatch z⟩
      have ra4 : RowAt K H4 a ys := ⟨d4, t, ha4, B4 _ _ (bn _ _ ht (fun z => by rw [z, ha] at ht; cases ht) fun _ z => nomatch z) fun z => by rw [z, ha] at ht; cases ht⟩
      have bn4 : ButN a H H4 := bn.trans (ButN.but B4)
      have hg4 := bn4 _ _ hg (lst_ne ra0 hg) fun _ z => nomatch z
      have gd := fun q hq => (hgd q hq).2.1
      refine ⟨_, rfl, true, rfl, iteTe rfl ?_⟩
      refine ⟨_, rfl, a, d4, _, rfl, ha4, rfl, a, ys, rfl, ra4, fun m H5 f5 s5 g5 => ?_⟩
      refine ⟨m, ys, ps, rfl, g5, (its_butA ra0 bn4 its).same s5, by rw [its_len its]; omega, fun g6 H6 us f6 s6 h6 pr6 => ?_⟩
      refine ⟨_, rfl, .list (ps.map pd), .list (ps.map pd), .lst (SqL.of h6) (dp_prs pr6), .lst (SqL.of (s6 _ _ (s5 _ _ hg4))) (dp_prs ((prs_butA ra0 bn4 prs).keep fun b xs e => s6 _ _ (s5 _ _ e))), shaped_prs gd, shaped_prs gd, ?_⟩
      rw [eqv_prs gd]
      have s46 := s5.trans s6
      exact k H6 (fun b u h n1 n2 => s46 _ _ (bn4 b u h n1 n2)) (Tbn.ext (tbn_but T3 B4 (by obtain ⟨s1, d1, h1⟩ := st2; exact ⟨_, _, _, h1⟩)) s46) ⟨d4, s46 _ _ ha4⟩
end
end K09
namespace K09
open PySem PySem.Spec PyProof.Rows L2 He Tw
abbrev s_td : Stmt := topS 45
abbrev N_td : List Str := ["_law_row", "_law_some", "_law_is_bad", "_law_is_refused"]
theorem sc_td : FnScope N_td ["_law_row", "_law_some", "_law_is_bad"] (defScope s_td) := ⟨rfl, rfl, rfl, by decide +kernel, rfl, by decide +kernel, by decide +kernel⟩
def spTd (K : Fg) : Sp := fun vs H Q _ => ∃ (a l dx t : Addr) (b : Bool) (ys rs : List V) (ps : List (Int × Str)) (qss : List (List (Int × Str))), vs = [.ref a, .ref l, .bl b] ∧ H a = some (.ins (ga K "Row") dx [("state", .ref t)]) ∧ H t = some (.tup ys) ∧ Its K H ys ps ∧ Asc ps ∧ H l = some (.lst rs) ∧ Rws K H a rs qss ∧ ps.length + 3 * qss.length < 64 ∧ Tk K H ∧
  ∀ us, Adds ps qss us → (b = false → ∀ (H' : Hp) (ys' : List V), ButN a H H' → Tk K H' → RowAt K H' a ys' → Its K H' ys' us → Q (.bl false) H') ∧
    (b = true → ∀ (H' : Hp), ButN a H H' → Tk K H' → (∃ dx', H' a = some (.ins (ga K "Row") dx' [("state", .ref t)])) → Q (.bl true) H')
section
variable {P : Program} {w : World} {K : Fg} {mg : Str → Option Value} {base : Heap} {fd : Nat → FuncData}
theorem G_td (D : DefsK K fd) (T : Txt K mg) (tb : TBs K mg base) : FnOk P w K mg base CX0 20 (ga K "_law_tried") (fd 37) ["_law_row", "_law_some", "_law_is_bad"] (spTd K) := by
  have gC := T.fn (x := "_law_changes") (by decide +kernel)
  have gB : mg "BadPlace" = some (.ref (ga K "BadPlace")) := T.cl (by decide +kernel)
  have FC : FnP K "_law_changes" "_law_changes" s_chg (ga K "_law_changes") (fd 34) := D 34 _ rfl
  have GC : ∀ base : Heap, FnOk P w K mg base (L2.CX P w) 10 _ (fd 34) ["_law_row", "_law_some", "_law_is_bad"] (spCh K) := fun base => ok_chg D T
  have bC : Binds K (fd 34) ["_law_row", "_law_some", "_law_is_bad"] [] := FC.bindsN fun _ _ _ _ _ _ us hl => match us, hl with | [_, _, _], _ => rfl
  have FA : FnP K "attempt" "Row.attempt" s_at (ma K (ga K "Row") "attempt") (fd 48) := D 48 _ rfl
  have bA : Binds K (fd 48) ["self", "deed"] [] := FA.bindsN fun _ _ _ _ _ _ us hl => match us, hl with | [_, _], _ => rfl
  have GA : ∀ base' : Heap, Sub base base' → FnR P w K mg base' (L2.CX P w) 14 _ (spAt 13 P w K mg base') := fun base' _ => (FnOk.raw (G_at (by decide) D T) bA .nil).imp fun vs H Q E h => by rw [List.append_nil]; exact h
  have mA := T.mtR2 (m := "attempt") (by decide +kernel)
  have TB := tb (fun K => ga K "_law_tried") (by simp [tabs])
  have F : FnP K "_law_tried" "_law_tried" s_td (ga K "_law_tried") (fd 37) := D 37 _ rfl
  obtain ⟨oc, od, dV, kV, doc, pm, an, cdv, ct, osl, e0, lk, hcd, _, _⟩ := F.ex
  rw [e0] at lk ⊢
  obtain ⟨cc, rfl⟩ := codeIn_ref hcd
  have ec : Tw.codeAt K (ga K "_law_tried") = cc := by
    unfold Tw.codeAt
    rw [lk]
  rw [ec] at TB
  refine fn_of lk hcd sc_td (fun vs H Q E h => ?_) (fun A outer s H vs Q E hr h => ?_)
  · obtain ⟨a, l, dx, t, b, ys, rs, ps, qss, rfl, _⟩ := h
    rfl
  · obtain ⟨a, l, dx, t, b, ys, rs, ps, qss, rfl, ha, ht, its, asc, hl, hrs, few, hT, k⟩ := h
    refine ⟨_, PSs.nox (pss_cons (ps_set (i := 3) sc_td.nd rfl (Or.inl rfl) pe_bl)
    (pss_cons (ps_try_only (c := .ref (ga K "BadPlace")) (Wout := fun _ _ _ _ => False) rfl rfl ⟨rfl, by decide, .inl gB⟩ L2.takes0
      (fun W pn xe tk _ => pss_one (ps_expr (pe_lamM (host := host) (L := Tb K) (pre := fun _ => True) (k := 12) (xs := ["_law_held"]) (cs := ["_law_some", "_law_is_bad"]) (caps := [1, 2]) (tb := fun c' P' E => tCallS (spCh K) (fun _ => E) (tCons (tVar 0) (tCons (tVar 1) (tCons (tVar 2) tNil)))) (Pr := P) (wo := w) (K := K) (mg := mg) (qn := nm "_law_tried") (pv 0) T.clsR mA
        (by exact ⟨made_def TB rfl (show (tabAt K (ga K "_law_tried"), nm "_law_tried") ∈ Tb K from by simp [Tb]), bmIn TB, cellsOut_def (fun _ => rfl), lamQ_by (sc := defScope s_td) (by decide +kernel), (caps_by (N := N_td) (by decide +kernel)), rfl, by decide +kernel, rfl, (fun us _ _ _ _ _ hu => match us, hu with | [_], _ => rfl),
          (fun base A outer s1 H1 E f c' P' hsub hr2 hout => pe_callS (E := fun _ => E) (GC base) (hr2.mono (by decide)) rfl gC FC.kp bC (fun σ => fun pins H s e s' I c => (passes_call (takes_of rfl rfl rfl rfl) (fun _ _ _ _ h => h)) pins σ H s e s' I c) (pa_cons (pe_var (x := "_law_held") (i := 0) rfl (.inl rfl)) (pa_cons (pe_var (x := "_law_some") (i := 1) rfl (.inr (.inr rfl))) (pa_cons (pe_var (x := "_law_is_bad") (i := 2) rfl (.inr (.inr rfl))) pa_nil))))⟩)
        GA (hr.mono (by decide)) (fun σ => passAt tk σ))))
      (fun a oe cls d pn hz hf => pss_one (ps_set (i := 3) sc_td.nd rfl (Or.inl rfl) pe_bl)))
    (pss_one (ps_ret (pv 3))))), ?_⟩
    refine ⟨_, rfl, a, dx, _, rfl, ha, rfl, hT, trivial, fun f c' P' H1 base' e1 T1 _ hc hfa FL => ?_⟩
    have ext : ∀ b u, H b = some u → (∀ xs, u ≠ .tbl xs) → H1 b = some u := fun b u h n => e1 b u h n
    have ha1 := ext _ _ ha fun _ z => nomatch z
    have ht1 := ext _ _ ht fun _ z => nomatch z
    have ra1 : RowAt K H1 a ys := ⟨dx, t, ha1, ht1⟩
    refine ⟨a, f, t, _, fun v H2 => b = false ∧ ∃ us ys', Adds ps qss us ∧ ButN a H H2 ∧ Tk K H2 ∧ RowAt K H2 a ys' ∧ Its K H2 ys' us, fun cls d H2 => b = true ∧ cls = .ref (ga K "BadPlace") ∧ (∃ us, Adds ps qss us) ∧ ButN a H H2 ∧ Tk K H2 ∧ (∃ s1, StAt K H2 a s1), rfl, ⟨dx, ha1⟩, hfa, FL, fun H2 Q1 E1 s2 done fail => ?_, fun v H2 dn => ?_, fun cls d H3 H4 fl B4 st => ?_⟩
    · refine ⟨rfl, s2 _ _ hc, _, rfl, _, rfl, _, rfl, a, l, b, ys, rs, ps, qss, rfl, ra1.same s2, (its_ext e1 its).same s2, asc, s2 _ _ (ext _ _ hl fun _ z => nomatch z), (rws_ext e1 hrs).same s2, few, fun us ad => ⟨fun hb H' ys' B ra ia => ?_, fun hb d H' ys' B ra g => ?_⟩⟩
      · obtain ⟨d3, t3, h3, _⟩ := id ra
        exact done _ H' (ButN.but B) ⟨t3, d3, h3⟩ ⟨hb, us, ys', ad, fun b u h n1 n2 => B _ _ (s2 _ _ (ext b u h n2)) n1, tbn_but (Tbn.ext T1 s2) B ⟨_, _, _, s2 _ _ ha1⟩, ra, ia⟩
      · obtain ⟨d3, t3, h3, _⟩ := ra
        exact fail _ _ H' (ButN.but B) ⟨t3, d3, h3⟩ ⟨.ref _, rfl, fun z => nomatch z⟩ ⟨hb, rfl, ⟨us, ad⟩, fun b u h n1 n2 => B _ _ (s2 _ _ (ext b u h n2)) n1, tbn_but (Tbn.ext T1 s2) B ⟨_, _, _, s2 _ _ ha1⟩, t3, d3, h3⟩
    · obtain ⟨hb, us, ys', ad, bn, T2, ra, ia⟩ := dn
      exact ⟨_, rfl, (k us ad).1 hb H2 ys' bn T2 ra ia⟩
    · obtain ⟨hb, rfl, ⟨us, ad⟩, bn, T3, st2⟩ := fl
      obtain ⟨d4, ha4⟩ := st
      refine ⟨true, T.exmB, fun _ c hc => ?_, fun z => nomatch z⟩
      exact ⟨_, rfl, (k us ad).2 hb H4 (bn.trans (ButN.but B4)) (tbn_but T3 B4 (by obtain ⟨s1, d1, h1⟩ := st2; exact ⟨_, _, _, h1⟩)) ⟨d4, ha4⟩⟩
abbrev s_ou : Stmt := topS 46
abbrev N_ou : List Str := ["_law_row", "_law_some", "_law_inner", "_law_bads", "_law_was_refused"]
theorem sc_ou : FnScope N_ou ["_law_row", "_law_some", "_law_inner", "_law_bads"] (defScope s_ou) := ⟨rfl, rfl, rfl, by decide +kernel, rfl, by decide +kernel, by decide +kernel⟩
/-- what the outer trial leaves, b: the inner one is refused -/
def Fin (ps : List (Int × Str)) (q1 q2 : List (List (Int × Str))) (b : Bool) (us : List (Int × Str)) : Prop := ∃ m, Adds ps q1 m ∧ (b = true → us = m) ∧ (b = false → Adds m q2 us)
def spOu (K : Fg) : Sp := fun vs H Q E => ∃ (a lo li lb dx t : Addr) (b0 b1 : Bool) (ys r1 r2 : List V) (ps : List (Int × Str)) (q1 q2 : List (List (Int × Str))), vs = [.ref a, .ref lo, .ref li, .ref lb] ∧ H a = some (.ins (ga K "Row") dx [("state", .ref t)]) ∧ H t = some (.tup ys) ∧ Its K H ys ps ∧ Asc ps ∧
  H lo = some (.lst r1) ∧ Rws K H a r1 q1 ∧ H li = some (.lst r2) ∧ Rws K H a r2 q2 ∧ H lb = some (.lst [.bl b0, .bl b1]) ∧ ps.length + 3 * (q1.length + q2.length) < 64 ∧ Tk K H ∧
  ∀ us, Fin ps q1 q2 b0 us → (b1 = false → ∀ (q : Addr) (H' : Hp) (ys' : List V), ButN a H H' → Tk K H' → RowAt K H' a ys' → Its K H' ys' us → H' q = some (.tup [.bl b0, .int (us.length : Nat)]) → Q (.ref q) H') ∧
    (b1 = true → ∀ (d : Addr) (H' : Hp), ButN a H H' → Tk K H' → (∃ s1, StAt K H' a s1) → H' d = some (.xd [("at", .int (us.length : Nat))]) → E (.ref (ga K "BadPlace")) (some d) H')
theorem G_ou (D : DefsK K fd) (T : Txt K mg) (tb : TBs K mg base) : FnOk P w K mg base (L2.CX P w) 22 (ga K "_law_outer") (fd 38) ["_law_row", "_law_some", "_law_inner", "_law_bads"] (spOu K) := by
  have zlen : mg "len" = none := T.bl (by decide +kernel)
  have gC := T.fn (x := "_law_changes") (by decide +kernel)
  have gT := T.fn (x := "_law_tried") (by decide +kernel)
  have FC : FnP K "_law_changes" "_law_changes" s_chg (ga K "_law_changes") (fd 34) := D 34 _ rfl
  have GC : FnOk P w K mg base (L2.CX P w) 10 _ (fd 34) ["_law_row", "_law_some", "_law_is_bad"] (spCh K) := ok_chg D T
  have bC : Binds K (fd 34) ["_law_row", "_law_some", "_law_is_bad"] [] := FC.bindsN fun _ _ _ _ _ _ us hl => match us, hl with | [_, _, _], _ => rfl
  have FT : FnP K "_law_tried" "_law_tried" s_td (ga K "_law_tried") (fd 37) := D 37 _ rfl
  have GT : FnOk P w K mg base CX0 20 _ (fd 37) ["_law_row", "_law_some", "_law_is_bad"] (spTd K) := G_td D T tb
  have bT : Binds K (fd 37) ["_law_row", "_law_some", "_law_is_bad"] [] := FT.bindsN fun _ _ _ _ _ _ us hl => match us, hl with | [_, _, _], _ => rfl
  have FL : FnP K "__len__" "Row.__len__" s_len (ma K (ga K "Row") "__len__") (fd 42) := D 42 _ rfl
  have GL : FnOk P w K mg base CX0 1 _ (fd 42) ["self"] (spLen K) := ok_len FL T
  have bL : Binds K (fd 42) ["self"] [] := FL.bindsN fun _ _ _ _ _ _ us hl => match us, hl with | [_], _ => rfl
  have mL := T.mtR2 (m := "__len__") (by decide +kernel)
  have F : FnP K "_law_outer" "_law_outer" s_ou (ga K "_law_outer") (fd 38) := D 38 _ rfl
  refine F.ok sc_ou (fun vs H Q E h => ?_) (fun cdv A outer s H vs Q E hr h => ?_)
  · obtain ⟨a, lo, li, lb, dx, t, b0, b1, ys, r1, r2, ps, q1, q2, rfl, _⟩ := h
    rfl
  · obtain ⟨a, lo, li, lb, dx, t, b0, b1, ys, r1, r2, ps, q1, q2, rfl, ha, ht, its, asc, hlo, hr1, hli, hr2, hlb, few, hT, k⟩ := h
    refine ⟨_, (pss_cons (ps_expr (pe_call (E := E) GC (hr.mono (by decide)) rfl gC FC.kp bC .nil (passes_call (takes_of rfl rfl rfl rfl) (fun _ _ _ _ h => h)) (pa_cons (pv 0) (pa_cons (pv 1) (pa_cons pe_bl pa_nil)))))
    (pss_cons (ps_set (i := 4) sc_ou.nd rfl (Or.inl rfl) (pe_call (E := E0) GT (hr.mono (by decide)) rfl gT FT.kp bT .nil pass0 (pa_cons (pv 0) (pa_cons (pv 2) (pa_cons (pe_ix ix_list (pv 3) pe_int (fun _ _ => rfl)) pa_nil)))))
    (pss_cons (ps_expr (pe_call (E := E) GC (hr.mono (by decide)) rfl gC FC.kp bC .nil (passes_call (takes_of rfl rfl rfl rfl) (fun _ _ _ _ h => h)) (pa_cons (pv 0) (pa_cons (pe_lstN pa_nil) (pa_cons (pe_ix ix_list (pv 3) pe_int (fun _ _ => rfl)) pa_nil)))))
    (pss_one (ps_ret (pe_tupN (pa_cons (pv 4) (pa_cons (pe_callB (call_lenOwn (E := E0) mL.at_ mL.fn GL (hr.mono (by decide)) bL pass0) (by rfl) zlen (by decide +kernel) (pa_cons (pv 0) pa_nil)) pa_nil)))))))), ?_⟩
    have ra : RowAt K H a ys := ⟨dx, t, ha, ht⟩
    refine ⟨_, rfl, _, rfl, a, lo, false, ys, r1, ps, q1, rfl, ra, its, asc, hlo, hr1, by omega, fun m ad => ⟨fun _ H1 y1 B1 ra1 ia1 => ?_, fun z => nomatch z⟩⟩
    have lm := Adds.len ad asc (Rws.three hr1)
    obtain ⟨d1, t1, ha1, ht1⟩ := id ra1
    have T1 := tbn_but hT B1 ⟨_, _, _, ha⟩
    have hlb1 := B1 _ _ hlb (lst_ne ra hlb)
    refine ⟨_, rfl, _, rfl, _, rfl, lb, _, 0, .bl b0, rfl, rfl, SqL.of hlb1, rfl, a, li, d1, t1, b0, y1, r2, m, q2, rfl, ha1, ht1, ia1, lm.1, B1 _ _ hli (lst_ne ra hli), Rws.but ra B1 hr2, by omega, T1, fun us ad2 => ?_⟩
    -- what follows the inner trial
    have rest : ∀ (H2 : Hp) (y2 : List V) (u2 : List (Int × Str)) (bb : Bool), Fin ps q1 q2 b0 u2 → ButN a H1 H2 → Tk K H2 → RowAt K H2 a y2 → Its K H2 y2 u2 → Asc u2 → u2.length < 64 → bb = b0 →
        tSeq (tDrop (tCall (spCh K) [] E (tCons (tVar 0) (tCons (tLstN tNil) (tCons (tOp (rIxL K) (tVar 3) (tC (.int 1))) tNil))))) (tRet (tTupN (tCons (tVar 4) (tCons (tCB (rLenOwn (ga K "Row") (spLen K) E0) (tCons (tVar 0) tNil)) tNil)))) { nx := fun _ H' => Q .non H', rt := Q } [some (.ref a), some (.ref lo), some (.ref li), some (.ref lb), some (.bl bb)] H2 := fun H2 y2 u2 bb fin bn T2 ra2 ia2 asc2 l2 hbb => by
      have hlb2 := bn _ _ hlb1 (lst_ne ra1 hlb1) fun _ z => nomatch z
      refine ⟨_, rfl, sz1000 (by show 0 ≤ 1000; decide), fun e H3 f3 m3 s3 g3 => ⟨_, rfl, lb, _, 1, .bl b1, rfl, rfl, SqL.of (s3 _ _ hlb2), rfl, ?_⟩⟩
      refine ⟨a, e, b1, y2, [], u2, [], rfl, ra2.same s3, ia2.same s3, asc2, g3, .nil, by simpa using l2, fun u3 ad3 => ?_⟩
      have e3 : u3 = u2 := ad3
      subst e3
      have bn3 : ∀ {H4 : Hp}, But a H3 H4 → ButN a H H4 := fun {H4} B4 b u h n1 n2 => B4 _ _ (s3 _ _ (bn _ _ (B1 _ _ h n1) n1 n2)) n1
      obtain ⟨d2, t2, ha2, _⟩ := id ra2
      have T3 : ∀ {H4 : Hp}, But a H3 H4 → Tk K H4 := fun {H4} B4 => tbn_but (Tbn.ext T2 s3) B4 ⟨_, _, _, s3 _ _ ha2⟩
      refine ⟨fun hb H4 y4 B4 ra4 ia4 => ?_, fun hb d H4 y4 B4 ra4 g4 => ?_⟩
      · obtain ⟨d4, t4, ha4, _⟩ := id ra4
        have l4 := its_len ia4
        refine ⟨_, rfl, _, rfl, a, d4, _, rfl, ha4, a, y4, rfl, ra4, by omega, y4.length, rfl, by omega, sz1000 (by show 2 ≤ 1000; decide), fun q H5 f5 s5 g5 => ?_⟩
        rw [l4, hbb] at g5
        exact (k u3 fin).1 hb q H5 y4 (fun b u h n1 n2 => s5 _ _ (bn3 B4 b u h n1 n2)) (Tbn.ext (T3 B4) s5) (ra4.same s5) (ia4.same s5) g5
      · obtain ⟨d4, t4, ha4, _⟩ := ra4
        exact (k u3 fin).2 hb d H4 (bn3 B4) (T3 B4) ⟨t4, d4, ha4⟩ g4
    refine ⟨fun hb H2 y2 bn T2 ra2 ia2 => ?_, fun hb H2 bn T2 h2 => ?_⟩
    · have lu := Adds.len ad2 lm.1 (Rws.three hr2)
      exact rest H2 y2 us false ⟨m, ad, fun z => (by rw [hb] at z; cases z), fun _ => ad2⟩ bn T2 ra2 ia2 lu.1 (by omega) hb.symm
    · obtain ⟨d2, h2⟩ := h2
      have ra2 : RowAt K H2 a y1 := ⟨d2, t1, h2, bn _ _ ht1 (fun z => by rw [z, ha1] at ht1; cases ht1) fun _ z => nomatch z⟩
      exact rest H2 y1 m true ⟨m, ad, fun _ => rfl, fun z => (by rw [hb] at z; cases z)⟩ bn T2 ra2 (its_butA ra1 bn ia1) lm.1 (by omega) hb.symm
end
end K09
namespace K09
open PySem PySem.Spec PyProof.Rows L2 He Tw
/-- what _law_heard tells of what a callable gives or raises -/
def TTh2 (K : Fg) : (XK → Hp → VK → Prop) → Hp → VK → Prop := fun tl H Q => ∀ (E' : XK) (Q' : VK), (∀ cls d H', Eh K Q cls d H' → E' cls d H') → (∀ v H1, (∀ (q : Addr) (H' : Hp), H1 q = none → Same H1 H' → H' q = some (.lst [v]) → Q (.ref q) H') → Q' v H1) → tl E' H Q'
def spHF (n : Nat) (P : Program) (w : World) (K : Fg) (mg : Str → Option Value) (base : Heap) : Sp := fun vs H Q _ => ∃ (f : Addr) (sl : Sp), vs = [.ref f] ∧ PySem.W.FnAt f base ∧ FnR P w K mg base (L2.CX P w) n f sl ∧ TTh2 K (fun E H Q => sl [] H Q E) H Q
theorem G_heard {P : Program} {w : World} {K : Fg} {mg : Str → Option Value} {base : Heap} {fh : Addr} {fd : FuncData} {n : Nat} (F : FnP K "_law_heard" "_law_heard" s_heard fh fd) (T : Txt K mg) : FnOk P w K mg base CX0 (n + 1) fh fd ["_law_ask"] (spHF n P w K mg base) := by
  have zisi : mg "isinstance" = none := T.bl (by decide +kernel)
  have gH : mg "HeadsError" = some (.ref (ga K "HeadsError")) := T.cl (by decide +kernel)
  have gI : mg "BadItem" = some (.ref (ga K "BadItem")) := T.cl (by decide +kernel)
  have gP : mg "BadPlace" = some (.ref (ga K "BadPlace")) := T.cl (by decide +kernel)
  have gD : mg "Disordered" = some (.ref (ga K "Disordered")) := T.cl (by decide +kernel)
  have gM : mg "TooMany" = some (.ref (ga K "TooMany")) := T.cl (by decide +kernel)
  refine F.ok sc_heard (fun vs H Q E h => by obtain ⟨f, sl, rfl, _⟩ := h; rfl) (fun cdv A outer s H vs Q E hr h => ?_)
  obtain ⟨f, sl, rfl, hf, FL, h⟩ := h
  have nd : N_heard.Nodup := sc_heard.nd
  refine ⟨_, PSs.nox (pss_cons (ps_set (i := 1) nd rfl (Or.inl rfl) pe_non)
    (pss_cons (ps_set (i := 2) nd rfl (Or.inl rfl) pe_non)
    (pss_cons (ps_tryL (i := 3) (n := "error") (c := .ref (ga K "HeadsError")) (tb := fun W D σ H => ∃ Ech : XK, (∀ cls d σ' H', Ech cls d H' → W cls d σ' H') ∧ σ[0]? = some (some (.ref f)) ∧ sl [] H (fun v H' => D.nx (σ.set 2 (some v)) H') Ech) rfl rfl rfl nd rfl rfl ⟨rfl, by decide, .inl gH⟩ LamX.takes0 (fun W pn xe tk _ => ?suite) (fun a oe cls d pn hz hf => pss_one (ps_set (i := 1) nd rfl (Or.inl rfl) (pv 3))))
    (pss_cons (ps_if (pt_val (pe_callB call_isA (by rfl) zisi (by decide +kernel) (pa_cons (pv 1) (pa_cons (pe_glob (v := .ref (ga K "BadItem")) rfl gI rfl) pa_nil)))) (pss_one (ps_ret (pe_tupN (pa_cons pe_str (pa_cons (pe_xfld (pv 1)) pa_nil))))) pss_nil)
    (pss_cons (ps_if (pt_val (pe_callB call_isA (by rfl) zisi (by decide +kernel) (pa_cons (pv 1) (pa_cons (pe_glob (v := .ref (ga K "BadPlace")) rfl gP rfl) pa_nil)))) (pss_one (ps_ret (pe_tupN (pa_cons pe_str (pa_cons (pe_xfld (pv 1)) pa_nil))))) pss_nil)
    (pss_cons (ps_if (pt_val (pe_callB call_isA (by rfl) zisi (by decide +kernel) (pa_cons (pv 1) (pa_cons (pe_glob (v := .ref (ga K "Disordered")) rfl gD rfl) pa_nil)))) (pss_one (ps_ret (pe_tupN (pa_cons pe_str (pa_cons (pe_xfld (pv 1)) pa_nil))))) pss_nil)
    (pss_cons (ps_if (pt_val (pe_callB call_isA (by rfl) zisi (by decide +kernel) (pa_cons (pv 1) (pa_cons (pe_glob (v := .ref (ga K "TooMany")) rfl gM rfl) pa_nil)))) (pss_one (ps_ret (pe_tupN (pa_cons pe_str (pa_cons (pe_xfld (pv 1)) pa_nil))))) pss_nil)
    (pss_one (ps_ret (pe_ifExp (pt_cmpR op_isN (pv 1) pe_non (nomark _)) (pe_lstN (pa_cons (pv 2) pa_nil)) (pe_tupN (pa_cons pe_str (pa_cons pe_int pa_nil))))))))))))), ?_⟩
  case suite =>
    refine ⟨fun pins s' σ H' D I h' => ?_⟩
    obtain ⟨Ech, hW, h1, h3⟩ := h'
    exact (pss_one (ps_set (i := 2) nd rfl (Or.inl rfl) (pe_callF0 (E := Ech) (i := 0) rfl (.inl rfl) hf FL hr (passes_call tk fun _ _ _ _ z => hW _ _ _ _ z)))).run pins s' σ H' D I ⟨h1, h3⟩
  · refine ⟨Eh K Q, ?_, rfl, h _ _ (fun _ _ _ z => z) fun v H1 hq => ?_⟩
    · rintro cls d σ' H' ⟨e, v, dd, he, rfl, rfl, hd, kq⟩ hl
      obtain ⟨w0, w1, w2, w3, rfl⟩ := four (show σ'.length = 4 from hl)
      refine ⟨ga K e.1, true, rfl, T.exm he, fun _ er her => ?_, fun z => nomatch z⟩
      have S1 := same_new (o := exT er (ga K e.1) (some dd)) her
      have hx : (upd H' er (exT er (ga K e.1) (some dd))) er = some (exT er (ga K e.1) (some dd)) := upd_same
      have hd2 := S1 _ _ hd
      have ty : TyA K (upd H' er (exT er (ga K e.1) (some dd))) (.ref er) (.ref (ga K e.1)) := .inr ⟨er, _, dd, _, rfl, rfl, .inr hx, .inr hd2, T.xc he, T.xo⟩
      have fin : ∀ (tp : Addr) (H3 : Hp), (upd H' er (exT er (ga K e.1) (some dd))) tp = none → Same (upd H' er (exT er (ga K e.1) (some dd))) H3 → H3 tp = some (.tup [.str (wordOf e.1), .int v]) → Q (.ref tp) H3 := fun tp H3 f3 s3 g3 => kq tp H3 (S1.free f3) (S1.trans s3) g3
      simp only [errs, List.mem_cons, List.not_mem_nil, or_false] at he
      have m0 : (("BadItem", 5, "part") : Str × Nat × Str) ∈ errs := by decide +kernel
      have m1 : (("BadPlace", 6, "at") : Str × Nat × Str) ∈ errs := by decide +kernel
      have m2 : (("Disordered", 7, "at") : Str × Nat × Str) ∈ errs := by decide +kernel
      have m3 : (("TooMany", 8, "most") : Str × Nat × Str) ∈ errs := by decide +kernel
      rcases he with rfl | rfl | rfl | rfl
      · refine ⟨_, rfl, _, rfl, .ref er, .ref (ga K "BadItem"), _, _, _, rfl, .own _, ty, T.kitT m0, _, rfl, ?_⟩
        exact iteT ⟨_, rfl, er, _, dd, _, _, rfl, .inr hx, T.xc m0, T.no m0, .inr hd2, rfl, sz1000 (by show 2 ≤ 1000; decide), fun tp H3 f3 s3 g3 => fin tp H3 f3 s3 g3⟩
      · refine ⟨_, rfl, _, rfl, .ref er, .ref (ga K "BadItem"), _, _, _, rfl, .own _, ty, T.kitF m1 m0 (by decide), _, rfl, ?_⟩
        refine iteF ⟨_, rfl, .ref er, .ref (ga K "BadPlace"), _, _, _, rfl, .own _, ty, T.kitT m1, _, rfl, ?_⟩
        exact iteT ⟨_, rfl, er, _, dd, _, _, rfl, .inr hx, T.xc m1, T.no m1, .inr hd2, rfl, sz1000 (by show 2 ≤ 1000; decide), fun tp H3 f3 s3 g3 => fin tp H3 f3 s3 g3⟩
      · refine ⟨_, rfl, _, rfl, .ref er, .ref (ga K "BadItem"), _, _, _, rfl, .own _, ty, T.kitF m2 m0 (by decide), _, rfl, ?_⟩
        refine iteF ⟨_, rfl, .ref er, .ref (ga K "BadPlace"), _, _, _, rfl, .own _, ty, T.kitF m2 m1 (by decide), _, rfl, ?_⟩
        refine iteF ⟨_, rfl, .ref er, .ref (ga K "Disordered"), _, _, _, rfl, .own _, ty, T.kitT m2, _, rfl, ?_⟩
        exact iteT ⟨_, rfl, er, _, dd, _, _, rfl, .inr hx, T.xc m2, T.no m2, .inr hd2, rfl, sz1000 (by show 2 ≤ 1000; decide), fun tp H3 f3 s3 g3 => fin tp H3 f3 s3 g3⟩
      · refine ⟨_, rfl, _, rfl, .ref er, .ref (ga K "BadItem"), _, _, _, rfl, .own _, ty, T.kitF m3 m0 (by decide), _, rfl, ?_⟩
        refine iteF ⟨_, rfl, .ref er, .ref (ga K "BadPlace"), _, _, _, rfl, .own _, ty, T.kitF m3 m1 (by decide), _, rfl, ?_⟩
        refine iteF ⟨_, rfl, .ref er, .ref (ga K "Disordered"), _, _, _, rfl, .own _, ty, T.kitF m3 m2 (by decide), _, rfl, ?_⟩
        refine iteF ⟨_, rfl, .ref er, .ref (ga K "TooMany"), _, _, _, rfl, .own _, ty, T.kitT m3, _, rfl, ?_⟩
        exact iteT ⟨_, rfl, er, _, dd, _, _, rfl, .inr hx, T.xc m3, T.no m3, .inr hd2, rfl, sz1000 (by show 2 ≤ 1000; decide), fun tp H3 f3 s3 g3 => fin tp H3 f3 s3 g3⟩
    · have kn := T.kind (t := "NoneType") (by decide)
      have k0 := kn.2 _ (show (("BadItem", 5, "part") : Str × Nat × Str) ∈ errs by decide +kernel)
      have k1 := kn.2 _ (show (("BadPlace", 6, "at") : Str × Nat × Str) ∈ errs by decide +kernel)
      have k2 := kn.2 _ (show (("Disordered", 7, "at") : Str × Nat × Str) ∈ errs by decide +kernel)
      have k3 := kn.2 _ (show (("TooMany", 8, "most") : Str × Nat × Str) ∈ errs by decide +kernel)
      refine ⟨_, rfl, .non, .ref (ga K "BadItem"), .type "NoneType", _, _, rfl, .own _, .inl (.base .non), k0, _, rfl, ?_⟩
      refine iteF ⟨_, rfl, .non, .ref (ga K "BadPlace"), .type "NoneType", _, _, rfl, .own _, .inl (.base .non), k1, _, rfl, ?_⟩
      refine iteF ⟨_, rfl, .non, .ref (ga K "Disordered"), .type "NoneType", _, _, rfl, .own _, .inl (.base .non), k2, _, rfl, ?_⟩
      refine iteF ⟨_, rfl, .non, .ref (ga K "TooMany"), .type "NoneType", _, _, rfl, .own _, .inl (.base .non), k3, _, rfl, ?_⟩
      refine iteF ⟨_, rfl, rfl, _, rfl, ?_⟩
      exact ⟨_, rfl, sz1000 (by show 1 ≤ 1000; decide), fun q H2 f2 m2 s2 g2 => hq q H2 f2 s2 g2⟩
end K09
namespace K09
open PySem PySem.Spec PyProof.Rows L2 He Tw
theorem prs_blk {H : Hp} (r : Int) : ∀ {ys : List V} {ps : List (Int × Str)}, Prs H ys ps → Prs H (blk ys ps r) (at_ r ps)
  | _, _, .nil => .nil
  | _, _, .cons (b := p) (l₂ := ps) h t => by
    unfold blk at_
    by_cases e : p.1 = r
    · rw [if_pos e, List.filter_cons_of_pos (p := fun q : Int × Str => decide (q.1 = r)) (decide_eq_true e)]
      exact .cons h (prs_blk r t)
    · rw [if_neg e, List.filter_cons_of_neg (p := fun q : Int × Str => decide (q.1 = r)) (fun z => e (of_decide_eq_true z))]
      exact prs_blk r t
theorem prs_app {H : Hp} {xs ys : List V} {ps qs : List (Int × Str)} (h : Prs H xs ps) (g : Prs H ys qs) : Prs H (xs ++ ys) (ps ++ qs) := paired_app g h
theorem prs_same {H H' : Hp} (e : Same H H') {xs : List V} {ps : List (Int × Str)} (h : Prs H xs ps) : Prs H' xs ps := h.keep fun t xs z => e _ _ z
abbrev s_ad : Stmt := topS 47
abbrev N_ad : List Str := ["_law_pairs_here", "_law_some", "_law_values_here", "_law_ranks", "_law_pair", "_law_later", "_law_k"]
theorem sc_ad : FnScope N_ad ["_law_pairs_here", "_law_some"] (defScope s_ad) := ⟨rfl, rfl, rfl, by decide +kernel, rfl, by decide +kernel, by decide +kernel⟩
/-- a list of lists of pairs -/
def Pss (H : Hp) (ls : List V) (qss : List (List (Int × Str))) : Prop := Paired (fun v q => ∃ l us, v = .ref l ∧ H l = some (.lst us) ∧ Prs H us q ∧ q.length ≤ 3) ls qss
theorem Pss.same {H H' : Hp} (e : Same H H') : ∀ {ls : List V} {qss : List (List (Int × Str))}, Pss H ls qss → Pss H' ls qss
  | _, _, .nil => .nil
  | _, _, .cons ⟨l, us, h1, h2, h3, h4⟩ t => .cons ⟨l, us, h1, e _ _ h2, prs_same e h3, h4⟩ (Pss.same e t)
def spAd : Sp := fun vs H Q _ => ∃ (f g : Addr) (ts ls : List V) (ps : List (Int × Str)) (qss : List (List (Int × Str))), vs = [.ref f, .ref g] ∧ H f = some (.lst ts) ∧ Prs H ts ps ∧ Asc ps ∧ H g = some (.lst ls) ∧ Pss H ls qss ∧ ps.length + 3 * qss.length ≤ 200 ∧
  ∀ (us : List (Int × Str)) (f' : Addr) (H' : Hp) (zs : List V), Adds ps qss us → Same H H' → H' f' = some (.lst zs) → Prs H' zs us → Q (.ref f') H'
/-- the pairs of a list whose rank is the k-th -/
theorem lc_rank {K : Fg} {f rk0 : Addr} {ts : List V} {ps : List (Int × Str)} {rs : List Int} {k n : Nat} {r : Int} {v0 v1 v2 v5 : Option V} {H1 : Hp} {Q : VK} (hf : H1 f = some (.lst ts)) (hp : Prs H1 ts ps) (hl : ps.length ≤ 300) (hr : H1 rk0 = some (.lst (rs.map V.int))) (er : rs[k]? = some r)
    (hn : [v0, v1, v2, some (.ref rk0), none, v5, some (.int (k : Int))][n]? = some (some (.ref f))) (hq : ∀ D H', H1 D = none → Same H1 H' → H' D = some (.lst (blk ts ps r)) → Q (.ref D) H') :
    tLc (iList K (tVar n)) (gName 4) (tTest (tOp rEq (tOp (rIxT K) (tVar 4) (tC (.int 0))) (tOp (rIxL K) (tVar 3) (tVar 6)))) (tVar 4) [4] [v0, v1, v2, some (.ref rk0), none, v5, some (.int (k : Int))] H1 Q := by
  have l1 : ts.length = ps.length := Paired.length hp
  refine ⟨_, hn, f, rfl, ⟨_, SqL.of hf⟩, fun D hD => ?_⟩
  refine lc_list (K := K) (a := f) (xs := ts) (g := gName 4) (te := tVar 4) (vs := [4]) (σ := [v0, v1, v2, some (.ref rk0), none, v5, some (.int (k : Int))]) (tt := tTest (tOp rEq (tOp (rIxT K) (tVar 4) (tC (.int 0))) (tOp (rIxL K) (tVar 3) (tVar 6)))) (fun j H' => Same H1 H' ∧ H' D = some (.lst (blk (ts.take j) (ps.take j) r))) ⟨same_new hD, upd_same⟩ (fun j H' _ q => SqL.of (q.1 _ _ hf)) ?_ ?_
  · rintro j x H' hx ⟨s', gD'⟩
    obtain ⟨t, p0, rfl, ep, ht⟩ := prs_at hp hx
    have tkx : ts.take (j + 1) = ts.take j ++ [.ref t] := by rw [List.take_add_one, hx]; rfl
    have tkp : ps.take (j + 1) = ps.take j ++ [p0] := by rw [List.take_add_one, ep]; rfl
    have lj : (ts.take j).length = (ps.take j).length := by rw [List.length_take, List.length_take, l1]
    have lb := blk_len r (ts.take j) (ps.take j)
    refine ⟨rfl, _, rfl, t, _, 0, .int p0.1, rfl, rfl, SqT.of (s' _ _ ht), rfl, _, rfl, _, rfl, rk0, _, (k : Int), .int r, rfl, rfl, SqL.of (s' _ _ hr), atI_nat (by rw [List.getElem?_map, er]; rfl), rfl, _, rfl, ?_⟩
    rw [dec_i]
    refine ite2 (fun hz' => ?_) (fun hz' => ?_)
    · refine ⟨_, rfl, _, gD', ?_, same_upd s' hD, ?_⟩
      · refine Nat.lt_of_le_of_lt lb (Nat.lt_of_lt_of_le (show (ts.take j).length < 1000 by rw [List.length_take]; omega) (by decide))
      · rw [upd_same, tkx, tkp, blk_snoc _ _ _ lj, if_pos (of_decide_eq_true hz')]
    · refine ⟨s', ?_⟩
      rw [gD', tkx, tkp, blk_snoc _ _ _ lj, if_neg (fun z => hz' (decide_eq_true z))]
  · rintro H8 ⟨s8, gM⟩
    rw [List.take_of_length_le (Nat.le_refl _), List.take_of_length_le (by omega)] at gM
    exact hq D H8 hD s8 gM
section
variable {P : Program} {w : World} {K : Fg} {mg : Str → Option Value} {base : Heap} {fd : Nat → FuncData}
theorem ok_ad (D : DefsK K fd) (T : Txt K mg) : FnOk P w K mg base CX0 1 (ga K "_law_added") (fd 39) ["_law_pairs_here", "_law_some"] spAd := by
  have zsorted : mg "sorted" = none := T.bl (by decide +kernel)
  have zint : mg "int" = none := T.bl (by decide +kernel)
  have zlen : mg "len" = none := T.bl (by decide +kernel)
  have zr : mg "range" = none := T.bl (by decide +kernel)
  have F : FnP K "_law_added" "_law_added" s_ad (ga K "_law_added") (fd 39) := D 39 _ rfl
  refine F.ok sc_ad (fun vs H Q E h => ?_) (fun cdv A outer s H vs Q E hr h => ?_)
  · obtain ⟨f, g, ts, ls, ps, qss, rfl, _⟩ := h
    rfl
  · obtain ⟨f, g, ts, ls, ps, qss, rfl, hf, hp, asc, hg, hps, few, k⟩ := h
    refine ⟨_, PSs.nox (pss_cons (ps_for PassesOwn.never rfl (pi_list (pv 1)) (pg_name (i := 2) sc_ad.nd rfl (Or.inl rfl))
    (pss_cons (ps_set (i := 3) sc_ad.nd rfl (Or.inr rfl) (pe_callB cr_sortedI (by rfl) zsorted (by decide +kernel) (pa_cons (pe_lc (own := [("_law_pair", 4)]) (g := gName 4) (tt := tYes) (by rfl) sc_ad.nd (pi_list (pe_op op_catN (pv 0) (pv 2))) (blkOk_by (own := [("_law_pair", 4)]) (N := N_ad) (sc := defScope s_ad) (by decide +kernel)) (fun _ _ _ _ _ => (pg_name (i := 4) sc_ad.nd rfl (Or.inl rfl))) (fun _ _ _ _ _ => pts_nil) (fun _ _ _ _ _ => (pe_callTy call_int1 (by rfl) zint (by decide +kernel) (pa_cons (pe_ix (ixt K) (pv 4) pe_int (fun _ _ => rfl)) pa_nil)))) pa_nil)))
    (pss_cons (ps_set (i := 5) sc_ad.nd rfl (Or.inl rfl) (pe_lstN pa_nil))
    (pss_cons (ps_for PassesOwn.never rfl (pi_range1 rfl zr (pa_cons (pe_callB call_len (by rfl) zlen (by decide +kernel) (pa_cons (pv 3) pa_nil)) pa_nil)) (pg_name (i := 6) sc_ad.nd rfl (Or.inr rfl))
    (pss_one (ps_if (PW.pt (pw_or (pt_cmpR op_eq (pv 6) pe_int (nomark _)) (pw_or1 (pt_cmpR op_ne (pe_ix ix_list (pv 3) (pv 6) (fun _ _ => rfl)) (pe_ix ix_list (pv 3) (pe_op op_sub (pv 6) pe_int) (fun _ _ => rfl)) (nomark _))))) (pss_cons (ps_set (i := 5) sc_ad.nd rfl (Or.inl rfl) (pe_op op_catN (pv 5) (pe_lc (own := [("_law_pair", 4)]) (g := gName 4) (by rfl) sc_ad.nd (pi_list (pv 0)) (blkOk_by (own := [("_law_pair", 4)]) (N := N_ad) (sc := defScope s_ad) (by decide +kernel)) (fun _ _ _ _ _ => (pg_name (i := 4) sc_ad.nd rfl (Or.inl rfl))) (fun _ _ _ _ _ => pts_one (pt_cmpR op_eq (pe_ix (ixt K) (pv 4) pe_int (fun _ _ => rfl)) (pe_ix (ixl K) (pv 3) (pv 6) (fun _ _ => rfl)) (nomark _))) (fun _ _ _ _ _ => (pv 4)))))
    (pss_one (ps_set (i := 5) sc_ad.nd rfl (Or.inl rfl) (pe_op op_catN (pv 5) (pe_lc (own := [("_law_pair", 4)]) (g := gName 4) (by rfl) sc_ad.nd (pi_list (pv 2)) (blkOk_by (own := [("_law_pair", 4)]) (N := N_ad) (sc := defScope s_ad) (by decide +kernel)) (fun _ _ _ _ _ => (pg_name (i := 4) sc_ad.nd rfl (Or.inl rfl))) (fun _ _ _ _ _ => pts_one (pt_cmpR op_eq (pe_ix (ixt K) (pv 4) pe_int (fun _ _ => rfl)) (pe_ix (ixl K) (pv 3) (pv 6) (fun _ _ => rfl)) (nomark _))) (fun _ _ _ _ _ => (pv 4))))))) pss_nil)))
    (pss_one (ps_set (i := 0) sc_ad.nd rfl (Or.inl rfl) (pv 5)))))))
    (pss_one (ps_ret (pv 0)))), ?_⟩
    have lq : ∀ q ∈ qss, q.length ≤ 3 := fun q hq => by
      obtain ⟨i, hi, rfl⟩ := List.getElem_of_mem hq
      have e : qss[i]? = some qss[i] := List.getElem?_eq_getElem hi
      have hi2 : i < ls.length := by rw [Paired.length hps]; exact hi
      obtain ⟨q', e', _, _, _, _, _, l3⟩ := paired_get hps (List.getElem?_eq_getElem hi2)
      rw [e] at e'
      cases e'
      exact l3
    refine ⟨_, rfl, g, rfl, ⟨_, SqL.of hg⟩, for_list (xs := ls) (fun i σ H' => ∃ (v2 v3 v5 v6 : Option V) (f1 : Addr) (zs : List V) (ms : List (Int × Str)), σ = [some (.ref f1), some (.ref g), v2, v3, none, v5, v6] ∧ Same H H' ∧ H' f1 = some (.lst zs) ∧ Prs H' zs ms ∧ Adds ps (qss.take i) ms) ⟨none, none, none, none, f, ts, ps, rfl, (fun _ _ e => e), hf, hp, rfl⟩ (fun i σ H' _ ⟨_, _, _, _, _, _, _, _, s', _⟩ => SqL.of (s' _ _ hg)) ?_ ?_⟩
    · rintro i y σ H1 hy ⟨v2, v3, v5, v6, f1, zs, ms, rfl, s1, gf1, pz, ad⟩
      obtain ⟨q, hq, l, us, rfl, gl, pu, l3⟩ := paired_get hps hy
      have hi : i < qss.length := (List.getElem?_eq_some_iff.mp hq).1
      have lt := List.length_take_le i qss
      have lm := Adds.len ad asc fun z hz => lq z (List.mem_of_mem_take hz)
      have lz : zs.length = ms.length := Paired.length pz
      have lu : us.length = q.length := Paired.length pu
      have gl1 := s1 _ _ gl
      have pu1 := prs_same s1 pu
      dsimp only [gName]
      unfold tSeq
      refine ⟨_, rfl, _, rfl, f1, l, zs, us, rfl, rfl, gf1, gl1, Nat.le_trans (show zs.length + us.length ≤ 1000 by omega) (by decide), fun c2 H2 f2 m2 s2 g2 => ?_⟩
      have pab : Prs H2 (zs ++ us) (ms ++ q) := prs_app (prs_same s2 pz) (prs_same s2 pu1)
      refine ⟨c2, rfl, ⟨_, SqL.of g2⟩, fun D1 hD => lc_list (K := K) (a := c2) (xs := zs ++ us) (fun i H' => Same H2 H' ∧ H' D1 = some (.lst ((rk ((ms ++ q).take i)).map V.int))) ⟨same_new hD, upd_same⟩ (fun i H' _ z => SqL.of (z.1 _ _ g2)) ?_ ?_⟩
      · rintro i x H3 hx ⟨s3, gD⟩
        obtain ⟨t, p, rfl, ep, ht⟩ := prs_at pab hx
        refine ⟨rfl, _, rfl, t, _, 0, .int p.1, rfl, rfl, SqT.of (s3 _ _ ht), rfl, .inl ⟨_, rfl, _, gD, ?_, same_upd s3 hD, ?_⟩⟩
        · have lt : i < (ms ++ q).length := (List.getElem?_eq_some_iff.mp ep).1
          rw [List.length_append] at lt
          refine Nat.lt_of_le_of_lt (m := i) ?_ (Nat.lt_of_lt_of_le (show i < 1000 by omega) (by decide))
          unfold rk
          rw [List.length_map, List.length_map, List.length_take]
          omega
        · rw [upd_same, List.take_add_one, ep]
          unfold rk
          simp
      rintro H3 ⟨s3, gD⟩
      rw [List.take_of_length_le (by rw [← (show (zs ++ us).length = (ms ++ q).length from Paired.length pab)]; exact Nat.le_refl _)] at gD
      refine ⟨D1, _, rfl, SqL.of gD, fun rs p perm ascR hpn => ?_⟩
      have s4 := same_new (o := .lst (rs.map V.int)) hpn
      have g4 : (upd H3 p (.lst (rs.map V.int))) p = some (.lst (rs.map V.int)) := upd_same
      generalize upd H3 p (.lst (rs.map V.int)) = H4 at s4 g4 ⊢
      have s14 := s2.trans (s3.trans s4)
      refine ⟨sz1000 (by show 0 ≤ 1000; decide), fun l0 H5 f5 m5 s5 g5 => ?_⟩
      have lr : rs.length = (ms ++ q).length := by
        rw [perm.length_eq]
        unfold rk
        rw [List.length_map]
      rw [List.length_append] at lr
      have s15 := s14.trans s5
      refine ⟨_, rfl, .ref p, rs.length, rfl, .inl ⟨_, SqL.of (s5 _ _ g4), by rw [List.length_map]⟩, ?_⟩
      refine ⟨(rs.length : Nat), rfl, by omega, by omega, ?_⟩
      refine for_range (lo := 0) (n := rs.length) (fun k σ H' => ∃ (v6 : Option V) (l1 : Addr) (ys : List V) (ns : List Int), σ = [some (.ref f1), some (.ref g), some (.ref l), some (.ref p), none, some (.ref l1), v6] ∧ Same H5 H' ∧ H' l1 = some (.lst ys) ∧ Prs H' ys (takenL "+" ms q ns) ∧ ns.Pairwise (· < ·) ∧ ∀ x, x ∈ ns ↔ x ∈ rs.take k)
        ⟨v6, l0, [], [], rfl, (fun _ _ e => e), g5, .nil, .nil, fun x => by simp⟩ ?_ ?_
      · rintro k σ H6 hk ⟨v6, l1, ys, ns, rfl, s6, g6, py, an, mn⟩
        dsimp only [gName]
        rw [Int.zero_add]
        have er : rs[k]? = some rs[k] := List.getElem?_eq_getElem hk
        have tk : rs.take (k + 1) = rs.take k ++ [rs[k]] := by rw [List.take_add_one, er]; rfl
        have low : ∀ x ∈ rs.take k, x ≤ rs[k] := fun x hx => by
          obtain ⟨n, hn, e⟩ := List.mem_iff_getElem.mp hx
          rw [List.length_take] at hn
          rw [List.getElem_take] at e
          rw [← e]
          exact List.pairwise_iff_getElem.mp ascR n k (by omega) hk (by omega)
        have lt6 : (takenL "+" ms q ns).length ≤ 400 := by
          have h1 := sum_at (asc_nodup an) ms
          have h2 := sum_at (asc_nodup an) q
          have : ∀ ks : List Int, (takenL "+" ms q ks).length ≤ (ks.map fun r => (at_ r ms).length).sum + (ks.map fun r => (at_ r q).length).sum := by
            intro ks
            induction ks with
            | nil => exact Nat.zero_le _
            | cons m ks ih =>
              have e : takenL "+" ms q (m :: ks) = ofRank "+" (at_ m ms) (at_ m q) ++ takenL "+" ms q ks := rfl
              have := ofRank_len "+" (at_ m ms) (at_ m q)
              rw [e, List.length_append, List.map_cons, List.map_cons, List.sum_cons, List.sum_cons]
              omega
          have := this ns
          omega
        have ly : ys.length = (takenL "+" ms q ns).length := Paired.length py
        have gp6 := s6 _ _ (s5 _ _ g4)
        have gf6 := s6 _ _ (s15 _ _ gf1)
        have gl6 := s6 _ _ (s15 _ _ gl1)
        have pz6 := prs_same (s15.trans s6) pz
        have pu6 := prs_same (s15.trans s6) pu1
        -- a new rank
        have fresh : ¬ rs[k] ∈ rs.take k → tSeq (tAsg (tOp rCatN (tVar 5) (tLc (iList K (tVar 0)) (gName 4) (tTest (tOp rEq (tOp (rIxT K) (tVar 4) (tC (.int 0))) (tOp (rIxL K) (tVar 3) (tVar 6)))) (tVar 4) [4])) (gName 5)) (tAsg (tOp rCatN (tVar 5) (tLc (iList K (tVar 2)) (gName 4) (tTest (tOp rEq (tOp (rIxT K) (tVar 4) (tC (.int 0))) (tOp (rIxL K) (tVar 3) (tVar 6)))) (tVar 4) [4])) (gName 5))
            { nx := fun σ H' => ∃ (v6 : Option V) (l1 : Addr) (ys : List V) (ns : List Int), σ = [some (.ref f1), some (.ref g), some (.ref l), some (.ref p), none, some (.ref l1), v6] ∧ Same H5 H' ∧ H' l1 = some (.lst ys) ∧ Prs H' ys (takenL "+" ms q ns) ∧ ns.Pairwise (· < ·) ∧ ∀ x, x ∈ ns ↔ x ∈ rs.take (k + 1), rt := Q } [some (.ref f1), some (.ref g), some (.ref l), some (.ref p), none, some (.ref l1), some (.int (k : Int))] H6 := fun nin => by
          refine ⟨_, rfl, lc_rank (K := K) (rk0 := p) (rs := rs) (r := rs[k]) gf6 pz6 (by omega) gp6 er rfl fun D H7 _ s7 g7 => ?_⟩
          have lb := blk_len rs[k] zs ms
          refine ⟨l1, D, ys, _, rfl, rfl, s7 _ _ g6, g7, Nat.le_trans (show ys.length + (blk zs ms rs[k]).length ≤ 1000 by omega) (by decide), fun c8 H8 f8 m8 s8 g8 => ?_⟩
          have s68 := s7.trans s8
          refine ⟨_, rfl, lc_rank (K := K) (rk0 := p) (rs := rs) (r := rs[k]) (s68 _ _ gl6) (prs_same s68 pu6) (by omega) (s68 _ _ gp6) er rfl fun D9 H9 _ s9 g9 => ?_⟩
          have lb2 := blk_len rs[k] us q
          refine ⟨c8, D9, _, _, rfl, rfl, s9 _ _ g8, g9, Nat.le_trans (show (ys ++ blk zs ms rs[k]).length + (blk us q rs[k]).length ≤ 1000 by rw [List.length_append]; omega) (by decide), fun c10 H10 f10 m10 s10 g10 => ?_⟩
          have s610 := s68.trans (s9.trans s10)
          refine ⟨_, c10, _, ns ++ [rs[k]], rfl, s6.trans s610, g10, ?_, ?_, fun x => ?_⟩
          · rw [takenL_snoc, List.append_assoc]
            exact prs_app (prs_same s610 py) (prs_app (prs_same s610 (prs_blk _ pz6)) (prs_same s610 (prs_blk _ pu6)))
          · refine List.pairwise_append.mpr ⟨an, List.pairwise_singleton _ _, fun x hx y hy => ?_⟩
            rw [List.mem_singleton.mp hy]
            have h1 := (mn x).mp hx
            have h2 := low x h1
            have h3 : x ≠ rs[k] := fun e => nin (e ▸ h1)
            omega
          · rw [tk, List.mem_append, List.mem_append, mn x]
        refine ⟨_, rfl, rfl, _, rfl, ?_⟩
        refine ite2 (fun h0 => ?_) (fun h0 => ?_)
        · have k0 : k = 0 := by
            have : (k : Int) = 0 := by simpa using h0
            omega
          exact iteTe rfl (fresh (fun z => by
            have e : rs.take k = [] := by rw [k0]; rfl
            rw [e] at z
            cases z))
        · have k1 : 0 < k := by
            have : ¬ (k : Int) = 0 := by simpa using h0
            omega
          have e1 : ((k : Int) - 1) = ((k - 1 : Nat) : Int) := by omega
          have ep : rs[k - 1]? = some (rs[k - 1]'(by omega)) := List.getElem?_eq_getElem _
          refine ⟨_, rfl, _, rfl, p, _, (k : Int), .int rs[k], rfl, rfl, SqL.of gp6, atI_nat (by rw [List.getElem?_map, er]; rfl), _, rfl, _, rfl, (k : Int), 1, rfl, rfl, p, _, ((k : Int) - 1), .int (rs[k - 1]'(by omega)), rfl, rfl, SqL.of gp6, ?_, rfl, _, rfl, ?_⟩
          · rw [e1]
            exact atI_nat (by rw [List.getElem?_map, ep]; rfl)
          rw [dec_i]
          have prev : rs[k - 1]'(by omega) ∈ rs.take k := by
            rw [List.mem_take_iff_getElem]
            exact ⟨k - 1, by omega, rfl⟩
          by_cases e : rs[k] = rs[k - 1]'(by omega)
          · refine iteFe (by rw [decide_eq_true e]; rfl) ?_
            refine ⟨_, l1, ys, ns, rfl, s6, g6, py, an, fun x => ?_⟩
            rw [tk, List.mem_append, mn x]
            refine ⟨.inl, fun h => h.elim id fun h => ?_⟩
            rw [List.mem_singleton.mp h, e]
            exact prev
          · refine iteTe (by rw [decide_eq_false e]; rfl) (fresh fun h => e ?_)
            have h1 := low _ prev
            obtain ⟨n, hn, en⟩ := List.mem_iff_getElem.mp h
            rw [List.length_take] at hn
            rw [List.getElem_take] at en
            have h2 : rs[n]'(by omega) ≤ rs[k - 1]'(by omega) := by
              by_cases z : n = k - 1
              · subst z
                exact Int.le_refl _
              · exact List.pairwise_iff_getElem.mp ascR n (k - 1) (by omega) (by omega) (by omega)
            rw [en] at h2
            omega
      · rintro σ H6 ⟨v6, l1, ys, ns, rfl, s6, g6, py, an, mn⟩
        refine ⟨_, rfl, _, _, _, _, l1, ys, takenL "+" ms q ns, rfl, s1.trans (s15.trans s6), g6, py, ?_⟩
        rw [List.take_add_one, hq]
        refine Adds.app ad ⟨_, ⟨ns, ⟨an, fun x => ?_⟩, rfl⟩, rfl⟩
        rw [mn x, List.take_of_length_le (Nat.le_refl _), perm.mem_iff]
        unfold rk
        rw [List.map_append, List.mem_append]
    · rintro σ H1 ⟨v2, v3, v5, v6, f1, zs, ms, rfl, s1, gf1, pz, ad⟩
      rw [Paired.length hps, List.take_length] at ad
      exact ⟨_, rfl, k ms f1 H1 zs ad s1 gf1 pz⟩
end
end K09
namespace K09
open PySem PySem.Spec PyProof.Rows L2 He Tw
abbrev s_sl : Stmt := inClass (topS 27) 32
abbrev N_sl : List Str := ["self", "by", "items", "answers", "order", "item", "k"]
theorem sc_sl : FnScope N_sl ["self", "by"] (defScope s_sl) := ⟨rfl, rfl, rfl, by decide +kernel, rfl, by decide +kernel, by decide +kernel⟩
/-- what the callable does: it answers o, or lets an error out -/
def Ansd (sl : Sp) (E : XK) (H : Hp) (o : V → Option V) (ys : List V) : Prop := ∀ y ∈ ys, ∀ (H' : Hp) (Q' : VK), Same H H' → (∀ v, o y = some v → ∀ H'', Same H' H'' → Q' v H'') → sl [y] H' Q' E
def spSl (P : Program) (w : World) (K : Fg) (mg : Str → Option Value) (base : Heap) : Sp := fun vs H Q E => ∃ (a f dx t : Addr) (ys : List V) (ps : List (Int × Str)) (sl : Sp) (o : V → Option V), vs = [.ref a, .ref f] ∧
  H a = some (.ins (ga K "Row") dx [("state", .ref t)]) ∧ H t = some (.tup ys) ∧ Its K H ys ps ∧ ps.length ≤ 400 ∧ PySem.W.FnAt f base ∧ FnR P w K mg base (L2.CX P w) 6 f sl ∧ Tk K H ∧ Ansd sl E H o ys ∧
  ((∃ y ∈ ys, o y = none) ∨ ∃ wy, (∀ (i : Nat) (y : V) (p : Int × Str), ys[i]? = some y → ps[i]? = some p → o y = some (ansV wy p.2)) ∧
    ∀ (H' : Hp) (t' : Addr) (ys' : List V), ButN a H H' → Tk K H' → H' a = some (.ins (ga K "Row") dx [("state", .ref t')]) → H' t' = some (.tup ys') → Its K H' ys' (ps.mergeSort (leP wy)) → Q .non H')
section
variable {P : Program} {w : World} {K : Fg} {mg : Str → Option Value} {base : Heap} {fd : Nat → FuncData}
theorem G_sl (D : DefsK K fd) (T : Txt K mg) (tb : TBs K mg base) : FnOk P w K mg base (L2.CX P w) 8 (ma K (ga K "Row") "settle") (fd 46) ["self", "by"] (spSl P w K mg base) := by
  have zlen : mg "len" = none := T.bl (by decide +kernel)
  have zr : mg "range" = none := T.bl (by decide +kernel)
  have zlist : mg "list" = none := T.bl (by decide +kernel)
  have ztup : mg "tuple" = none := T.bl (by decide +kernel)
  have zs : mg "sorted" = none := T.bl (by decide +kernel)
  have TB := tb (fun K => ma K (ga K "Row") "settle") (by simp [tabs])
  have F : FnP K "settle" "Row.settle" s_sl (ma K (ga K "Row") "settle") (fd 46) := D 46 _ rfl
  obtain ⟨oc, od, dV, kV, doc, pm, an, cdv, ct, osl, e0, lk, hcd, _, _⟩ := F.ex
  rw [e0] at lk ⊢
  obtain ⟨cc, rfl⟩ := codeIn_ref hcd
  have ec : Tw.codeAt K (ma K (ga K "Row") "settle") = cc := by
    unfold Tw.codeAt
    rw [lk]
  rw [ec] at TB
  refine fn_of lk hcd sc_sl (fun vs H Q E h => ?_) (fun A outer s H vs Q E hr h => ?_)
  · obtain ⟨a, f, dx, t, ys, ps, sl, o, rfl, _⟩ := h
    rfl
  · obtain ⟨a, f, dx, t, ys, ps, sl, o, rfl, ha, ht, his, few, hf, FL, hT, hans, hend⟩ := h
    refine ⟨_, (pss_cons (ps_set (i := 2) sc_sl.nd rfl (Or.inr rfl) (pe_fld (pv 0) rfl))
    (pss_cons (ps_set (i := 3) sc_sl.nd rfl (Or.inr rfl) (pe_lcX (own := [("item", 5)]) (g := gName 5) (E := E) (W := fun cls d _ H => E cls d H) rfl rfl (takes_of rfl rfl rfl rfl) (fun _ _ _ _ h => h) (by rfl) sc_sl.nd (pi_tup (pv 2)) (blkOk_by (own := [("item", 5)]) (N := N_sl) (sc := defScope s_sl) (by decide +kernel)) (fun _ _ _ _ _ => (pg_name (i := 5) sc_sl.nd rfl (Or.inl rfl)))
      (fun _ _ _ _ _ xe hp => pe_callF (E := E) (i := 1) rfl (by first | exact .inl rfl | exact .inr (.inl rfl) | exact .inr (.inr rfl)) hf FL (hr.mono (by decide)) hp (pa_cons (pv 5) pa_nil))))
    (pss_cons (ps_set (i := 4) sc_sl.nd rfl (Or.inl rfl) (pe_sortedL (host := host) (x := "k") (cs := ["items", "answers"]) (caps := [2, 3]) (pre := fun _ => True) (L := Tb K)
        (by exact ⟨made_def TB rfl (show (tabAt K (ma K (ga K "Row") "settle"), nm "Row.settle") ∈ Tb K from by simp [Tb]), bmIn TB, cellsOut_def (fun _ => rfl), lamQ_by (sc := defScope s_sl) (by decide +kernel), (caps_by (N := N_sl) (by decide +kernel)), rfl, by decide +kernel, rfl, (fun us _ _ _ _ _ _ hu => match us, hu with | [_], _ => rfl), fun _ => rfl,
          (fun base A outer s1 H1 E f c' => pu_fld (fld := "rank") (pu_ixT (K := K) (pu_var (x := "items") (i := 1) rfl (.inr (.inr rfl))) (pu_var (x := "k") (i := 0) rfl (.inl rfl)) (fun _ _ => rfl)) rfl T.cls (T.na (by decide +kernel))),
          (fun base A outer s1 H1 E f c' => pu_ixL (K := K) (pu_var (x := "answers") (i := 2) rfl (.inr (.inr rfl))) (pu_var (x := "k") (i := 0) rfl (.inl rfl)) (fun _ _ => rfl))⟩) (hr.mono (by decide)) (by rfl) zs (pa_cons (pe_callTy (cr_listRng (by rfl)) (by rfl) zlist (by decide +kernel) (pa_cons (pe_callTy cr_range1 (by rfl) zr (by decide +kernel) (pa_cons (pe_callB call_len (by rfl) zlen (by decide +kernel) (pa_cons (pv 2) pa_nil)) pa_nil)) pa_nil)) pa_nil) (by decide +kernel)))
    (pss_one (ps_fld (pv 0) (pe_callTy call_tuple_of (by rfl) ztup (by decide +kernel) (pa_cons (pe_lc (own := [("k", 6)]) (g := gName 6) (by rfl) sc_sl.nd (pi_list (pv 4)) (blkOk_by (own := [("k", 6)]) (N := N_sl) (sc := defScope s_sl) (by decide +kernel)) (fun _ _ _ _ _ => (pg_name (i := 6) sc_sl.nd rfl (Or.inl rfl))) (fun _ _ _ _ _ => pts_nil) (fun _ _ _ _ _ => pe_ix (ixt K) (pv 2) (pv 6) (fun _ _ => rfl))) pa_nil)) rfl))))), ?_⟩
    have ln := its_len his
    refine ⟨_, rfl, a, _, dx, _, _, rfl, ha, T.clsR, T.naR, rfl, ?_⟩
    refine ⟨_, rfl, t, rfl, ⟨ys, SqT.of ht⟩, fun Dl hD => ?_⟩
    dsimp only [gName]
    refine lc_tup (K := K) (a := t) (xs := ys) (g := gName 5) (tt := tYes) (te := fun σ H Q => σ[1]? = some (some (V.ref f)) ∧ tCons (tVar 5) tNil σ H fun vs H1 => sl vs H1 Q E) (vs := [5]) (σ := [some (.ref a), some (.ref f), some (.ref t), none, none, none, none]) (fun i H' => Same H H' ∧ ∃ zs, H' Dl = some (.lst zs) ∧ Paired (fun y z => o y = some z) (ys.take i) zs) ⟨same_new hD, [], upd_same, .nil⟩ (fun _ _ _ q => SqT.of (q.1 _ _ ht)) ?_ ?_
    · rintro i y H' hy ⟨sD, zs, gD, hz⟩
      have hl := Paired.length hz
      refine ⟨rfl, rfl, _, rfl, hans y (List.mem_of_getElem? hy) H' _ sD fun v ev H2 s2 => ⟨zs, s2 _ _ gD, ?_, same_upd (sD.trans s2) hD, zs ++ [v], upd_same, ?_⟩⟩
      · rw [← hl, sizeLine_eq]
        have := List.length_take_le' i ys
        omega
      · rw [List.take_add_one, hy]
        show Paired _ (ys.take i ++ [y]) (zs ++ [v])
        exact paired_ap (F := fun y z => o y = some z) (.cons ev .nil) hz
    · rintro H1 ⟨sD, zs, gD, hz⟩
      rw [List.take_length] at hz
      rcases hend with ⟨y, hy, ho⟩ | ⟨wy, hw, k⟩
      · obtain ⟨i, hi, rfl⟩ := List.getElem_of_mem hy
        have e1 : ys[i]? = some ys[i] := List.getElem?_eq_getElem hi
        obtain ⟨b, _, h⟩ := paired_get hz e1
        rw [ho] at h
        cases h
      · have lz : zs = ps.map fun p => ansV wy p.2 := by
          refine List.ext_getElem? fun i => ?_
          by_cases hi : i < ys.length
          · have e1 : ys[i]? = some ys[i] := List.getElem?_eq_getElem hi
            have e3 : ps[i]? = some (ps[i]'(by omega)) := List.getElem?_eq_getElem (by omega)
            obtain ⟨b, e2, h⟩ := paired_get hz e1
            rw [hw i _ _ e1 e3] at h
            rw [e2, List.getElem?_map, e3, ← h]
            rfl
          · have := Paired.length hz
            rw [List.getElem?_eq_none (by omega), List.getElem?_eq_none (by rw [List.length_map]; omega)]
        clear hz
        subst lz
        have l4 : ys.length ≤ sizeLine := by rw [sizeLine_eq]; omega
        refine ⟨_, rfl, .ref t, ys.length, rfl, .inr ⟨ys, SqT.of (sD _ _ ht), rfl⟩, ys.length, rfl, fun pr fpr => ⟨pr, ys.length, rfl, upd_same, by omega, fun l fl => ?_⟩⟩
        have sl : Same H (upd (upd H1 pr (.rng 0 (ys.length : Int))) l (.lst (upToV ys.length))) := (sD.trans (same_new fpr)).trans (same_new fl)
        have gD2 : (upd (upd H1 pr (.rng 0 (ys.length : Int))) l (.lst (upToV ys.length))) Dl = some (.lst (ps.map fun p => ansV wy p.2)) := ((same_new fpr).trans (same_new fl)) _ _ gD
        have gl : (upd (upd H1 pr (.rng 0 (ys.length : Int))) l (.lst (upToV ys.length))) l = some (.lst (upToV ys.length)) := upd_same
        refine ⟨l, upToV ys.length, ps.map fun p => (p.1, dA wy p.2), rfl, hT.ext sl, trivial, fun z hz => ?_, fun z hz z' hz' => ?_, fun H2 e2 T2 => ?_⟩
        · obtain ⟨p, _, rfl⟩ := List.mem_map.mp hz
          exact ⟨_, dA_scal wy p.2⟩
        · obtain ⟨p, _, rfl⟩ := List.mem_map.mp hz
          obtain ⟨p', _, rfl⟩ := List.mem_map.mp hz'
          exact dA_alike wy _ _
        generalize upd (upd H1 pr (.rng 0 (ys.length : Int))) l (.lst (upToV ys.length)) = G at sl gD2 gl e2
        have ext : ∀ b u, H b = some u → (∀ xs, u ≠ .tbl xs) → H2 b = some u := fun b u h n => e2 _ _ (sl _ _ h) n
        have ht2 := ext _ _ ht fun _ z => nomatch z
        have gl2 := e2 _ _ gl fun _ z => nomatch z
        have gD3 := e2 _ _ gD2 fun _ z => nomatch z
        refine ⟨SqL.of gl2, paired_ix (by rw [upTo_len, List.length_map, ln]) fun i y k hy hk => ?_, fun q fq => ?_⟩
        · have hi : i < ys.length := by
            have := (List.getElem?_eq_some_iff.mp hy).1
            rw [upTo_len] at this
            exact this
          rw [upTo_get hi] at hy
          cases hy
          have e3 : ps[i]? = some (ps[i]'(by omega)) := List.getElem?_eq_getElem (by omega)
          rw [List.getElem?_map, e3] at hk
          cases hk
          obtain ⟨b, eb, Ib⟩ := its_at his e3
          obtain ⟨db, hb⟩ := Ib
          have hb2 := ext _ _ hb fun _ z => nomatch z
          refine ⟨⟨_, rfl, _, rfl, t, ys, i, _, rfl, rfl, SqT.of ht2, eb, b, db, _, _, rfl, hb2, rfl, (fun _ z => nomatch z), rfl⟩, ⟨_, rfl, _, rfl, Dl, _, i, _, rfl, rfl, SqL.of gD3, ?_, dA_scal wy _⟩⟩
          rw [List.getElem?_map, e3]
          rfl
        · rw [sortT_order ln]
          have s3 := same_new (o := .lst ((sortT wy ys ps).map (·.1))) fq
          have gq : (upd H2 q (.lst ((sortT wy ys ps).map (·.1)))) q = some (.lst ((sortT wy ys ps).map (·.1))) := upd_same
          generalize upd H2 q (.lst ((sortT wy ys ps).map (·.1))) = H3 at s3 gq
          have ext3 : ∀ b u, H b = some u → (∀ xs, u ≠ .tbl xs) → H3 b = some u := fun b u h n => s3 _ _ (ext b u h n)
          have T3 := T2.ext s3
          have nS : (sortT wy ys ps).length ≤ 400 := by
            unfold sortT trip
            rw [List.length_mergeSort, List.length_zip, List.length_zip, upTo_len]
            omega
          refine ⟨_, rfl, q, rfl, ⟨_, SqL.of gq⟩, fun D2 fD2 => ?_⟩
          refine lc_list (K := K) (a := q) (xs := (sortT wy ys ps).map (·.1)) (g := gName 6) (tt := tYes) (te := tOp (rIxT K) (tVar 2) (tVar 6)) (vs := [6]) (σ := [some (.ref a), some (.ref f), some (.ref t), some (.ref Dl), some (.ref q), none, none])
            (fun i H' => Same H3 H' ∧ H' D2 = some (.lst (((sortT wy ys ps).map (·.2.1)).take i))) ⟨same_new fD2, upd_same⟩ (fun _ _ _ z => SqL.of (z.1 _ _ gq)) ?_ ?_
          · rintro i y H' hy ⟨s4, g4⟩
            rw [List.getElem?_map] at hy
            cases hx : (sortT wy ys ps)[i]? with
            | none =>
              rw [hx] at hy
              cases hy
            | some x =>
              rw [hx] at hy
              cases hy
              obtain ⟨j, ej, ey, _⟩ := trip_mem (sortT_mem (List.mem_of_getElem? hx))
              refine ⟨rfl, _, rfl, _, rfl, t, ys, (j : Int), x.2.1, rfl, ej, SqT.of (s4 _ _ (ext3 _ _ ht fun _ z => nomatch z)), atI_nat ey, _, g4, ?_, same_upd s4 fD2, ?_⟩
              · have := List.length_take_le' i ((sortT wy ys ps).map (·.2.1))
                rw [List.length_map] at this
                rw [sizeLine_eq]
                omega
              · rw [upd_same, List.take_add_one, List.getElem?_map, hx]
                rfl
          · rintro H4 ⟨s4, g4⟩
            rw [List.take_of_length_le (by rw [List.length_map, List.length_map]; exact Nat.le_refl _)] at g4
            refine ⟨D2, _, rfl, .inl ⟨SqL.of g4, fun l2 f2 => ?_⟩⟩
            have s5 := same_new (o := .tup ((sortT wy ys ps).map (·.2.1))) f2
            have g5 : (upd H4 l2 (.tup ((sortT wy ys ps).map (·.2.1)))) l2 = some (.tup ((sortT wy ys ps).map (·.2.1))) := upd_same
            generalize upd H4 l2 (.tup ((sortT wy ys ps).map (·.2.1))) = H5 at s5 g5
            have ext5 : ∀ b u, H b = some u → (∀ xs, u ≠ .tbl xs) → H5 b = some u := fun b u h n => s5 _ _ (s4 _ _ (ext3 b u h n))
            have ha5 := ext5 _ _ ha fun _ z => nomatch z
            have na : l2 ≠ a := fun z => by
              rw [z, ha5] at g5
              cases g5
            have nI : ∀ b C dy fs, H b = some (.ins C dy fs) → C ≠ ga K "Row" → b ≠ a := fun b C dy fs h n z => by
              rw [z, ha] at h
              cases h
              exact n rfl
            refine ⟨_, rfl, a, _, dx, _, rfl, ha5, T.clsR, T.naR, (by show 1 < 1000; decide), ?_⟩
            refine k _ l2 ((sortT wy ys ps).map (·.2.1)) (fun b u h n1 n2 => ?_) (tbn_but ((Tbn.ext T3 s4).ext s5) But.upd ⟨_, _, _, ha5⟩) upd_same ?_ ?_
            · rw [upd_ne n1]
              exact ext5 b u h n2
            · rw [upd_ne na]
              exact g5
            · rw [← sortT_pairs ln]
              refine paired_maps fun x hx => ?_
              obtain ⟨j, _, ey, ep⟩ := trip_mem (sortT_mem hx)
              obtain ⟨b, eb, db, hb⟩ := its_at his ep
              rw [ey] at eb
              refine ⟨b, Option.some.inj eb, db, ?_⟩
              rw [upd_ne (fun z => ?_)]
              · exact ext5 _ _ hb fun _ z => nomatch z
              · rw [z, ha] at hb
                have := Option.some.inj hb
                simp at this
end
end K09
namespace K09
open PySem PySem.Spec PyProof.Rows L2 He Tw
theorem lenK {X : Cx} (K : Fg) (h : X.K = K := by rfl) : CallR X (.builtin "len") (fun xs H Q => ∃ x n, xs = [x] ∧ LenV K x H n ∧ Q (.int n) H) := by
  subst h
  exact call_len
theorem noE {X : Cx} {P : Program} {w : World} : L2.Passes (L2.CX P w) X E0 := fun pins σ H s e s' I c => by
  obtain ⟨_, _, _, _, _, _, _, _, _, _, _, _, z⟩ := c
  exact z.elim
theorem tbn_lst {ho : Str → Option Str} {L : List (Addr × Str)} {p : Addr} {H H' : Hp} {xs : List V} (t : Tbn ho L H) (e : But p H H') (hp : H p = some (.lst xs)) : Tbn ho L H' := by
  obtain ⟨ν, h1, h2⟩ := t
  refine ⟨ν, h1, fun P q hq => ?_⟩
  obtain ⟨ps, a1, a2, a3⟩ := h2 P q hq
  refine ⟨ps, e _ _ a1 (fun z => ?_), a2, fun pos cv hc => ?_⟩
  · rw [z, hp] at a1
    cases a1
  · obtain ⟨c, P', y1, y2, y3⟩ := a3 pos cv hc
    refine ⟨c, P', y1, e _ _ y2 (fun z => ?_), y3⟩
    rw [z, hp] at y2
    unfold CodeN at y2
    cases y2
/-- what stands between the law's steps: the pen, the row, its pairs as a list, the tables -/
structure Sx (K : Fg) (H : Hp) (pn l : Addr) (c : Nat) (a g : Addr) (ps : List (Int × Str)) : Prop where
  P : PenL H pn l c
  row : ∃ ys, RowAt K H a ys ∧ Its K H ys ps
  lst : ∃ ts, H g = some (.lst ts) ∧ Prs H ts ps
  tk : Tk K H
  ne : g ≠ pn
section
variable {K : Fg} {H H' : Hp} {pn l a g : Addr} {c c' : Nat} {ps qs : List (Int × Str)}
theorem Sx.same (S : Sx K H pn l c a g ps) (e : Same H H') : Sx K H' pn l c a g ps := by
  obtain ⟨P, ⟨ys, r, i⟩, ⟨ts, h, p⟩, t, n⟩ := S
  exact ⟨P.same e, ⟨ys, r.same e, i.same e⟩, ⟨ts, e _ _ h, prs_same e p⟩, Tbn.ext t e, n⟩
theorem Sx.ext (S : Sx K H pn l c a g ps) (e : LamX.ExtN H H') (t' : Tk K H') : Sx K H' pn l c a g ps := by
  obtain ⟨P, ⟨ys, r, i⟩, ⟨ts, h, p⟩, t, n⟩ := S
  exact ⟨penN P e, ⟨ys, row_ext e r, its_ext e i⟩, ⟨ts, e _ _ h (fun _ z => nomatch z), p.keep fun b xs z => e _ _ z fun _ z => nomatch z⟩, t', n⟩
theorem pen_kind {H : Hp} {b : Addr} {o : HO} (P : PenL H pn l c) (e : H b = some o) (n : ∀ xs, o ≠ .lst xs) : b ≠ pn := ne_pen P e n
theorem Sx.pen (S : Sx K H pn l c a g ps) (e : But pn H H') (P' : PenL H' pn l c') : Sx K H' pn l c' a g ps := by
  obtain ⟨P, ⟨ys, ⟨dx, t0, r1, r2⟩, i⟩, ⟨ts, h, p⟩, t, n⟩ := S
  obtain ⟨ns, x, y, hp, _⟩ := id P
  refine ⟨P', ⟨ys, ⟨dx, t0, e _ _ r1 (ne_pen P r1 (fun _ z => nomatch z)), e _ _ r2 (ne_pen P r2 (fun _ z => nomatch z))⟩, ?_⟩, ⟨ts, e _ _ h n, p.keep fun b xs z => e _ _ z (ne_pen P z fun _ z => nomatch z)⟩, tbn_lst t e hp, n⟩
  have go : ∀ {us : List V} {rs : List (Int × Str)}, Its K H us rs → Its K H' us rs := fun {us rs} h => by
    induction h with
    | nil => exact .nil
    | cons h t ih =>
      obtain ⟨b, h1, d, h2⟩ := h
      exact .cons ⟨b, h1, d, e _ _ h2 (ne_pen P h2 fun _ z => nomatch z)⟩ ih
  exact go i
theorem Sx.mono (S : Sx K H pn l c a g ps) (h : c ≤ c') : Sx K H pn l c' a g ps := ⟨S.P.mono h, S.row, S.lst, S.tk, S.ne⟩
/-- the row is of other pairs now -/
theorem Sx.but (S : Sx K H pn l c a g ps) (e : ButN a H H') (t' : Tk K H') {ys' : List V} (r' : RowAt K H' a ys') (i' : Its K H' ys' qs) {g' : Addr} {ts' : List V} (h' : H' g' = some (.lst ts')) (p' : Prs H' ts' qs) (n' : g' ≠ pn) : Sx K H' pn l c a g' qs := by
  obtain ⟨P, ⟨ys, r, i⟩, _, t, n⟩ := S
  obtain ⟨ns, x, y, hp, hl, h3⟩ := id P
  exact ⟨⟨ns, x, y, e _ _ hp (lst_ne r hp) (fun _ z => nomatch z), e _ _ hl (lst_ne r hl) (fun _ z => nomatch z), h3⟩, ⟨ys', r', i'⟩, ⟨ts', h', p'⟩, t', n'⟩
end
/-- told(row.listed()) == pairs -/
def tTold (K : Fg) (i : Nat) : TE := tCall (spTold K) [] E0 (tCons (tMeth (ga K "Row") "listed" (spListed K) [] E0 (tVar i) tNil) tNil)
theorem told_two {K : Fg} {σ : L2.St} {H : Hp} {i : Nat} {a : Addr} {ys : List V} {ps : List (Int × Str)} {R : V → Hp → Prop} (hi : σ[i]? = some (some (.ref a))) (ra : RowAt K H a ys) (ia : Its K H ys ps) (lp : ps.length ≤ 800)
    (k : ∀ (g : Addr) (H' : Hp) (us : List V), Same H H' → H g = none → H' g = some (.lst us) → Prs H' us ps → R (.ref g) H') : tTold K i σ H R := by
  obtain ⟨da, ta, ha, hta⟩ := id ra
  refine ⟨_, hi, a, da, _, rfl, ha, rfl, a, ys, rfl, ra, fun m H5 f5 s5 g5 => ?_⟩
  refine ⟨m, ys, ps, rfl, g5, ia.same s5, by rw [its_len ia]; omega, fun g6 H6 us f6 s6 h6 pr6 => k g6 H6 us (s5.trans s6) (s5.free f6) h6 pr6⟩
theorem told_eq {K : Fg} {σ : L2.St} {H : Hp} {i j : Nat} {a g : Addr} {ys ts : List V} {ps : List (Int × Str)} {Q : VK} (hi : σ[i]? = some (some (.ref a))) (hj : σ[j]? = some (some (.ref g))) (ra : RowAt K H a ys) (ia : Its K H ys ps) (lp : ps.length ≤ 800) (hg : H g = some (.lst ts)) (pr : Prs H ts ps)
    (gd : ∀ q ∈ ps, textOk q.2 = true) (k : ∀ H', Same H H' → Q (.bl true) H') : tOp (rEqD K) (tTold K i) (tVar j) σ H Q := by
  refine told_two hi ra ia lp fun g6 H6 us s6 f6 h6 pr6 => ?_
  refine ⟨_, hj, .list (ps.map pd), .list (ps.map pd), .lst (SqL.of h6) (dp_prs pr6), .lst (SqL.of (s6 _ _ hg)) (dp_prs (prs_same s6 pr)), shaped_prs gd, shaped_prs gd, ?_⟩
  rw [eqv_prs gd]
  exact k H6 s6
theorem told_ne {K : Fg} {σ : L2.St} {H : Hp} {i j : Nat} {a g : Addr} {ys ts : List V} {ps : List (Int × Str)} {Q : VK} (hi : σ[i]? = some (some (.ref a))) (hj : σ[j]? = some (some (.ref g))) (ra : RowAt K H a ys) (ia : Its K H ys ps) (lp : ps.length ≤ 800) (hg : H g = some (.lst ts)) (pr : Prs H ts ps)
    (gd : ∀ q ∈ ps, textOk q.2 = true) (k : ∀ H', Same H H' → Q (.bl false) H') : tOp (rNeD K) (tTold K i) (tVar j) σ H Q := by
  refine told_two hi ra ia lp fun g6 H6 us s6 f6 h6 pr6 => ?_
  refine ⟨_, hj, .list (ps.map pd), .list (ps.map pd), .lst (SqL.of h6) (dp_prs pr6), .lst (SqL.of (s6 _ _ hg)) (dp_prs (prs_same s6 pr)), shaped_prs gd, shaped_prs gd, ?_⟩
  rw [eqv_prs gd]
  exact k H6 s6
def placeD (n : Int) : PyData := .tuple [.str "place", .int n]
theorem shaped_place (n : Int) : SeqAt.shaped (placeD n) = true := by
  have h : PyData.strOk "place" = true := by decide +kernel
  simp [placeD, SeqAt.shaped, PyData.canLay0, PyData.canLayAll0, PyData.depth, PyData.depthAll, h]
theorem eqv_place (n : Int) : PyData.eqv (placeD n) (placeD n) = true := by
  simp [placeD, PyData.eqv, PyData.eqvAll]
theorem dp_place {K : Fg} {H : Hp} {q : Addr} {n : Int} (h : H q = some (.tup [.str "place", .int n])) : Dp K H (.ref q) (placeD n) := .tup (SqT.of h) (.cons (.str _) (.cons (.int _) .nil))
/-- what is answered for the item at y -/
def ansAt (H : Hp) (w : Nat) : V → Option V
  | .ref b => match H b with
    | some (.ins _ _ [_, (_, .str z)]) => some (ansV w z)
    | _ => none
  | _ => none
theorem ansAt_it {K : Fg} {H : Hp} {w : Nat} {b : Addr} {i : Int} {z : Str} (h : It K H b i z) : ansAt H w (.ref b) = some (ansV w z) := by
  obtain ⟨dx, h⟩ := h
  unfold ansAt
  dsimp only
  rw [h]
theorem its_mem {K : Fg} {H : Hp} : ∀ {ys : List V} {ps : List (Int × Str)} {y : V}, Its K H ys ps → y ∈ ys → ∃ (b : Addr) (p : Int × Str), y = .ref b ∧ p ∈ ps ∧ It K H b p.1 p.2
  | _, _, y, .nil, h => nomatch h
  | _, _, y, .cons (b := p) ⟨b, h1, h2⟩ t, h => by
    rcases List.mem_cons.mp h with rfl | h
    · exact ⟨b, p, h1, List.mem_cons_self, h2⟩
    · obtain ⟨b', p', e1, e2, e3⟩ := its_mem t h
      exact ⟨b', p', e1, List.mem_cons_of_mem _ e2, e3⟩
theorem gd_sort {w : Nat} {ps : List (Int × Str)} (gd : ∀ q ∈ ps, Gd q) : ∀ q ∈ ps.mergeSort (leP w), Gd q := fun q hq => gd q ((List.mergeSort_perm _ _).mem_iff.mp hq)
end K09
namespace K09
open PySem PySem.Spec PyProof.Rows L2 He Tw
abbrev s_sr : Stmt := topS 40
abbrev N_sr : List Str := ["_law_pen_here", "_law_row", "_law_pairs_here", "_law_way", "_law_empty", "_law_due", "_law_k", "_law_heard_here"]
theorem sc_sr : FnScope N_sr ["_law_pen_here", "_law_row", "_law_pairs_here"] (defScope s_sr) := ⟨rfl, rfl, rfl, by decide +kernel, rfl, by decide +kernel, by decide +kernel⟩
def spSr (K : Fg) : Sp := fun vs H Q _ => ∃ (pn l a g : Addr) (c : Nat) (ps : List (Int × Str)), vs = [.ref pn, .ref a, .ref g] ∧ Sx K H pn l c a g ps ∧ c ≤ 500000 ∧ Asc ps ∧ (∀ q ∈ ps, Gd q) ∧ ps.length ≤ 63 ∧
  ∀ (wy : Nat) (g' : Addr) (H' : Hp), Sx K H' pn l (c + 1) a g' (ps.mergeSort (leP wy)) → Q (.ref g') H'
section
variable {P : Program} {w : World} {K : Fg} {mg : Str → Option Value} {base : Heap} {fd : Nat → FuncData}
theorem G_sr (D : DefsK K fd) (T : Txt K mg) (tb : TBs K mg base) : FnOk P w K mg base CX0 14 (ga K "_law_settle_right") (fd 32) ["_law_pen_here", "_law_row", "_law_pairs_here"] (spSr K) := by
  have zlen : mg "len" = none := T.bl (by decide +kernel)
  have zr : mg "range" = none := T.bl (by decide +kernel)
  have gD := T.fn (x := "_law_draw") (by decide +kernel)
  have gA := T.fn (x := "_law_answer") (by decide +kernel)
  have gS := T.fn (x := "_law_settled") (by decide +kernel)
  have gT := T.fn (x := "_law_told") (by decide +kernel)
  have gH := T.fn (x := "_law_heard") (by decide +kernel)
  have FD : FnP K "_law_draw" "_law_draw" s_draw (ga K "_law_draw") (fd 24) := D 24 _ rfl
  have G_draw : FnOk P w K mg base CX0 1 _ (fd 24) ["_law_pen_here", "_law_many"] spDrawL := ok_draw FD T
  have b_draw : Binds K (fd 24) ["_law_pen_here", "_law_many"] [] := FD.bindsN fun _ _ _ _ _ _ us hl => match us, hl with | [_, _], _ => rfl
  have FA : FnP K "_law_answer" "_law_answer" s_ans (ga K "_law_answer") (fd 30) := D 30 _ rfl
  have GA : ∀ base : Heap, FnOk P w K mg base CX0 1 _ (fd 30) ["_law_way", "_law_name"] spAns := fun base => ok_ans FA T
  have bA : Binds K (fd 30) ["_law_way", "_law_name"] [] := FA.bindsN fun _ _ _ _ _ _ us hl => match us, hl with | [_, _], _ => rfl
  have FS : FnP K "_law_settled" "_law_settled" s_stl (ga K "_law_settled") (fd 31) := D 31 _ rfl
  have GS : FnOk P w K mg base CX0 2 _ (fd 31) ["_law_pairs_here", "_law_way"] (spStl K) := ok_stl FS FA gA T
  have bS : Binds K (fd 31) ["_law_pairs_here", "_law_way"] [] := FS.bindsN fun _ _ _ _ _ _ us hl => match us, hl with | [_, _], _ => rfl
  have FT : FnP K "_law_told" "_law_told" s_told (ga K "_law_told") (fd 28) := D 28 _ rfl
  have GT : FnOk P w K mg base CX0 1 _ (fd 28) ["_law_listed"] (spTold K) := ok_told FT T
  have bT : Binds K (fd 28) ["_law_listed"] [] := FT.bindsN fun _ _ _ _ _ _ us hl => match us, hl with | [_], _ => rfl
  have FLi : FnP K "listed" "Row.listed" s_lst (ma K (ga K "Row") "listed") (fd 8) := D 8 _ rfl
  have GLi : FnOk P w K mg base CX0 1 _ (fd 8) ["self"] (spListed K) := ok_lst FLi T
  have bLi : Binds K (fd 8) ["self"] [] := FLi.bindsN fun _ _ _ _ _ _ us hl => match us, hl with | [_], _ => rfl
  have mL := T.mtR (m := "listed") (by decide +kernel)
  have FSe : FnP K "settle" "Row.settle" s_sl (ma K (ga K "Row") "settle") (fd 46) := D 46 _ rfl
  have GSe : ∀ base' : Heap, Sub base base' → FnOk P w K mg base' (L2.CX P w) 8 _ (fd 46) ["self", "by"] (spSl P w K mg base') := fun base' s => G_sl D T (tb.up s)
  have kSe : KBn K (fd 46) ["self", "by"] 1 ["by"] (fun us ws => us ++ ws) (fun vs zs => vs ++ zs) := kbNone FSe 1 ["by"] fun _ _ _ _ _ _ us ws l1 l2 => match us, ws, l1, l2 with | [_], [_], _, _ => rfl
  have bSe : Binds K (fd 46) ["self", "by"] [] := FSe.bindsN fun _ _ _ _ _ _ us hl => match us, hl with | [_, _], _ => rfl
  have RSe : ∀ base' : Heap, Sub base base' → FnR P w K mg base' (L2.CX P w) 8 _ (spSl P w K mg base') := fun base' s => (FnOk.raw (GSe base' s) bSe .nil).imp fun vs H Q E h => by rw [List.append_nil]; exact h
  have mS := T.mtR2 (m := "settle") (by decide +kernel)
  have FH : FnP K "_law_heard" "_law_heard" s_heard (ga K "_law_heard") (fd 29) := D 29 _ rfl
  have bH : Binds K (fd 29) ["_law_ask"] [] := FH.bindsN fun _ _ _ _ _ _ us hl => match us, hl with | [_], _ => rfl
  have RH : ∀ base' : Heap, Sub base base' → FnR P w K mg base' CX0 11 _ (spHF 10 P w K mg base') := fun base' s => (FnOk.raw (G_heard FH T) bH .nil).imp fun vs H Q E h => by rw [List.append_nil]; exact h
  have FG : FnP K "__getitem__" "Row.__getitem__" s_get (ma K (ga K "Row") "__getitem__") (fd 43) := D 43 _ rfl
  have GG : ∀ base : Heap, FnOk P w K mg base (L2.CX P w) 4 (ma K (ga K "Row") "__getitem__") (fd 43) ["self", "at"] (spGet K) := fun base => G_get D T
  have bG : Binds K (fd 43) ["self", "at"] [] := FG.bindsN fun _ _ _ _ _ _ us hl => match us, hl with | [_, _], _ => rfl
  have fG := fnIn_of FG
  have mG := T.mtR2 (m := "__getitem__") (by decide +kernel)
  have TB := tb (fun K => ga K "_law_settle_right") (by simp [tabs])
  have F : FnP K "_law_settle_right" "_law_settle_right" s_sr (ga K "_law_settle_right") (fd 32) := D 32 _ rfl
  obtain ⟨oc, od, dV, kV, doc, pm, an, cdv, ct, osl, e0, lk, hcd, _, _⟩ := F.ex
  rw [e0] at lk ⊢
  obtain ⟨cc, rfl⟩ := codeIn_ref hcd
  have ec : Tw.codeAt K (ga K "_law_settle_right") = cc := by
    unfold Tw.codeAt
    rw [lk]
  rw [ec] at TB
  have hmT : (tabAt K (ga K "_law_settle_right"), nm "_law_settle_right") ∈ Tb K := by simp [Tb]
  refine fn_of lk hcd sc_sr (fun vs H Q E h => ?_) (fun A outer s H vs Q E hr h => ?_)
  · obtain ⟨pn, l, a, g, c, ps, rfl, _⟩ := h
    rfl
  · obtain ⟨pn, l, a, g, c, ps, rfl, S0, hc, asc, gd, few, k⟩ := h
    refine ⟨_, PSs.nox (pss_cons (ps_set (i := 3) sc_sr.nd rfl (Or.inr rfl) (pe_call G_draw (hr.mono (by decide)) rfl gD FD.kp b_draw .nil pass0 (pa_cons (pv 0) (pa_cons pe_int pa_nil))))
    (pss_cons (ps_set (i := 4) sc_sr.nd rfl (Or.inl rfl) (pe_lamMK (E := fun _ => E0) (host := host) (L := Tb K) (pre := fun _ => True) (k := 5) (xs := ["_law_item"]) (cs := ["_law_way"]) (caps := [3]) (tb := fun c' P' E => tCall spAns [] E0 (tCons (tVar 1) (tCons (tFld K (tVar 0) "name") tNil))) (Pr := P) (wo := w) (K := K) (mg := mg) (qn := nm "_law_settle_right") (pv 1) T.clsR mS
        (by exact ⟨made_def TB rfl hmT, bmIn TB, cellsOut_def (fun _ => rfl), lamQ_by (sc := defScope s_sr) (by decide +kernel), (caps_by (N := N_sr) (by decide +kernel)), rfl, by decide +kernel, rfl, (fun us _ _ _ _ _ hu => match us, hu with | [_], _ => rfl),
          (fun base A outer s1 H1 E f c' P' hsub hr2 hout => pe_call (E := E0) (GA base) (hr2.mono (by decide)) rfl gA FA.kp bA .nil pass0 (pa_cons (pe_var (x := "_law_way") (i := 1) rfl (.inr (.inr rfl))) (pa_cons (fldK K (pe_var (x := "_law_item") (i := 0) rfl (.inl rfl))) pa_nil)))⟩)
        GSe (hr.mono (by decide)) (fun σ pins H s e s' I c => noE pins σ H s e s' I c) kSe))
    (pss_cons (ps_set (i := 5) sc_sr.nd rfl (Or.inr rfl) (pe_call GS (hr.mono (by decide)) rfl gS FS.kp bS .nil pass0 (pa_cons (pv 2) (pa_cons (pv 3) pa_nil))))
    (pss_cons (ps_if (PW.pt (pw_or (pt_cmpR op_notN (pv 4) pe_non (nomark _)) (pw_or1 (pt_cmpR (op_neD hr.units) (pe_call (E := E0) GT (hr.mono (by decide)) rfl gT FT.kp bT .nil pass0 (pa_cons (pe_meth0 (E := E0) (pv 1) T.clsR mL GLi (hr.mono (by decide)) bLi .nil pass0) pa_nil)) (pv 5) (nomark _))))) (pss_one (ps_ret pe_non)) pss_nil)
    (pss_cons (ps_if (pt_cmpR (op_neD hr.units) (pe_lc (own := [("_law_k", 6)]) (g := gName 6) (by rfl) sc_sr.nd (pi_range2 rfl zr (pa_cons pe_int (pa_cons (pe_callB call_len (by rfl) zlen (by decide +kernel) (pa_cons (pv 5) pa_nil)) pa_nil))) (blkOk_by (own := [("_law_k", 6)]) (N := N_sr) (sc := defScope s_sr) (by decide +kernel)) (fun _ _ _ _ _ => (pg_name (i := 6) sc_sr.nd rfl (Or.inl rfl))) (fun _ _ _ _ _ => pts_one (pt_cmpR op_eq (pe_ix (ixt K) (pe_ix (ixl K) (pv 5) (pv 6) (fun _ _ => rfl)) pe_int (fun _ _ => rfl)) (pe_ix (ixt K) (pe_ix (ixl K) (pv 5) (pe_op op_sub (pv 6) pe_int) (fun _ _ => rfl)) pe_int (fun _ _ => rfl)) (nomark _))) (fun _ _ _ _ _ => (pv 6))) (pe_lstN pa_nil) (nomark _)) (pss_cons (ps_set (i := 7) sc_sr.nd rfl (Or.inl rfl)
        (pe_lamG (E := fun _ => E0) (CX := CX0) (host := host) (L := Tb K) (pre := fun _ => True) (k := 9) (xs := []) (cs := ["_law_row", "_law_due"]) (caps := [1, 5]) (tb := fun c' P' E => tLamM P w K mg host ((P', nm (nm "_law_settle_right")) :: Tb K) (fun H => H c' = some (CodeN c' (nm "_law_settle_right") P')) (nm (nm "_law_settle_right")) 5 1 (fun _ _ E => tOp (rIxOwn (ga K "Row") (spGet K) E) (tVar 1) (tCB (fun xs H Q => ∃ x n, xs = [x] ∧ LenV K x H n ∧ Q (.int n) H) (tCons (tVar 2) tNil))) [0, 1] (ga K "Row") "settle" (spSl P w K mg) (fun _ => E) (tVar 0)) (Pr := P) (wo := w) (K := K) (mg := mg) (qn := nm "_law_settle_right")
          (by exact ⟨made_def TB rfl hmT, bmIn TB, cellsOut_def (fun _ => rfl), lamQ_by (sc := defScope s_sr) (by decide +kernel), (caps_by (N := N_sr) (by decide +kernel)), rfl, by decide +kernel, rfl, (fun us _ _ _ _ _ hu => match us, hu with | [], _ => rfl),
            (fun base A outer s1 H1 E f c' P' hsub hr2 hout => pe_lamM (E := fun _ => E) (xs := ["_law_item"]) (cs := ["_law_row", "_law_due"]) (caps := [0, 1]) (pe_var (x := "_law_row") (i := 0) rfl (.inr (.inr rfl))) T.clsR mS
              (by exact ⟨made_lam rfl List.mem_cons_self, (bmIn TB).up hsub, hout, lamQ_by (by rfl), (caps_by (N := ["_law_row", "_law_due"]) (by decide +kernel)), rfl, by decide +kernel, rfl, (fun us _ _ _ _ _ hu => match us, hu with | [_], _ => rfl),
                (fun base3 A3 outer3 s3 H3 E3 f3 c3 P3 hsub3 hr3 hout3 => pe_ixOwn (E := E3) mG.at_ mG.fn fG (GG base3) (hr3.mono (by decide)) bG (passes_call (takes_of rfl rfl rfl rfl) (fun _ _ _ _ h => h)) (pe_var (x := "_law_row") (i := 1) rfl (.inr (.inr rfl))) (pe_callB (lenK K) (by rfl) zlen (by decide +kernel) (pa_cons (pe_var (x := "_law_due") (i := 2) rfl (.inr (.inr rfl))) pa_nil)))⟩)
              (fun base' s' => RSe base' (hsub.trans s')) (hr2.mono (by decide)) (fun σ pins H s e s' I c => (passes_call (takes_of rfl rfl rfl rfl) (fun _ _ _ _ h => h)) pins σ H s e s' I c))⟩)
          RH (hr.mono (by decide)) rfl gH FH.kp (fun σ pins H s e s' I c => c.elim)))
    (pss_one (ps_if (PW.pt (pw_or (pt_cmpR (op_neD hr.units) (pv 7) (pe_tupN (pa_cons pe_str (pa_cons (pe_callB call_len (by rfl) zlen (by decide +kernel) (pa_cons (pv 5) pa_nil)) pa_nil))) (nomark _)) (pw_or1 (pt_cmpR (op_neD hr.units) (pe_call (E := E0) GT (hr.mono (by decide)) rfl gT FT.kp bT .nil pass0 (pa_cons (pe_meth0 (E := E0) (pv 1) T.clsR mL GLi (hr.mono (by decide)) bLi .nil pass0) pa_nil)) (pv 5) (nomark _))))) (pss_one (ps_ret pe_non)) pss_nil))) pss_nil)
    (pss_one (ps_ret (pv 5)))))))), ?_⟩
    refine ⟨_, rfl, pn, l, 4, c, rfl, by decide, by decide, S0.P, by omega, fun r H1 r0 r1 P1 B1 => ?_⟩
    obtain ⟨wy, rfl, hwy⟩ : ∃ m : Nat, r = (m : Int) ∧ m < 4 := ⟨r.toNat, by omega, by omega⟩
    have S1 := S0.pen B1 P1
    obtain ⟨ys, ra, ia⟩ := S1.row
    obtain ⟨dx, t, ha, ht⟩ := id ra
    refine ⟨_, rfl, a, dx, _, rfl, ha, rfl, S1.tk, trivial, fun f c' P' H2 base' e2 T2 _ hcc hfa FL => ?_⟩
    have S2 := S1.ext e2 T2
    have ha2 := e2 _ _ ha fun _ z => nomatch z
    have ht2 := e2 _ _ ht fun _ z => nomatch z
    have ia2 := its_ext e2 ia
    refine ⟨a, f, dx, t, ys, ps, _, ansAt H2 wy, rfl, ha2, ht2, ia2, by omega, hfa, FL, T2, fun y hy H' Q' s' ky => ?_, .inr ⟨wy, fun i y p hy hp => ?_, fun H3 t' ys' bn T3 h3 h4 i3 => ?_⟩⟩
    · obtain ⟨b, p, rfl, hp, It2⟩ := its_mem ia2 hy
      obtain ⟨db, hb⟩ := id It2
      have := (gd p hp).2.2
      refine ⟨rfl, s' _ _ hcc, _, rfl, _, rfl, b, _, db, _, _, rfl, s' _ _ hb, T.cls, T.na (by decide +kernel), rfl, wy, p.2, rfl, hwy, by omega, fun H'' s'' => ?_⟩
      exact ky _ (ansAt_it It2) H'' s''
    · obtain ⟨b, eb, It2⟩ := its_at ia2 hp
      rw [hy] at eb
      cases eb
      exact ansAt_it It2
    -- the row is settled
    obtain ⟨ts, hg, prs⟩ := S2.lst
    have ra2 : RowAt K H2 a ys := ⟨dx, t, ha2, ht2⟩
    have hg3 := bn _ _ hg (lst_ne ra2 hg) fun _ z => nomatch z
    have pr3 := prs_butA ra2 bn prs
    refine ⟨_, rfl, _, rfl, g, wy, ts, ps, rfl, hwy, SqL.of hg3, pr3, by omega, gd, fun d H4 us fd4 s4 gd4 pr4 => ?_⟩
    rw [settledL_sort wy asc] at pr4
    have lS : (ps.mergeSort (leP wy)).length = ps.length := List.length_mergeSort _
    have gS := gd_sort (w := wy) gd
    have gx : ∀ q ∈ ps.mergeSort (leP wy), textOk q.2 = true := fun q hq => (gS q hq).2.1
    have ra3 : RowAt K H3 a ys' := ⟨dx, t', h3, h4⟩
    have S4 : Sx K H4 pn l (c + 1) a d (ps.mergeSort (leP wy)) := by
      have P3 : PenL H3 pn l (c + 1) := by
        obtain ⟨ns, x, y, hp, hl, h5⟩ := S2.P
        exact ⟨ns, x, y, bn _ _ hp (lst_ne ra2 hp) (fun _ z => nomatch z), bn _ _ hl (lst_ne ra2 hl) (fun _ z => nomatch z), h5⟩
      exact ⟨P3.same s4, ⟨ys', ra3.same s4, i3.same s4⟩, ⟨us, gd4, pr4⟩, Tbn.ext T3 s4, (P3.new fd4).1⟩
    obtain ⟨ys4, ra4, ia4⟩ := S4.row
    refine ⟨_, rfl, rfl, _, rfl, ite2 (fun z => absurd z (by simp)) fun _ => ?_⟩
    refine told_ne (K := K) (i := 1) (j := 5) rfl rfl ra4 ia4 (by omega) gd4 pr4 gx fun H5 s5 => ⟨_, rfl, ite2 (fun z => absurd z (by simp)) fun _ => ?_⟩
    have S5 := S4.same s5
    have gd5 := s5 _ _ gd4
    have pr5 := prs_same s5 pr4
    have lu : us.length = ps.length := by rw [Paired.length pr4, lS]
    -- how it ends
    have fin : ∀ H', LamX.ExtN H5 H' → Tk K H' → Q (.ref d) H' := fun H' e t' => k wy d H' (S5.ext e t')
    refine ⟨_, rfl, .ref d, us.length, rfl, .inl ⟨_, SqL.of gd5, rfl⟩, 1, (us.length : Nat), rfl, ⟨by omega, by omega, by omega, by omega⟩, fun D fD => ?_⟩
    refine lc_range (lo := 1) (n := (((us.length : Nat) : Int) - 1).toNat) (g := gName 6) (te := tVar 6) (vs := [6]) (σ := [some (.ref pn), some (.ref a), some (.ref g), some (.int (wy : Int)), some .non, some (.ref d), none, none])
      (tt := tTest (tOp rEq (tOp (rIxT K) (tOp (rIxL K) (tVar 5) (tVar 6)) (tC (.int 0))) (tOp (rIxT K) (tOp (rIxL K) (tVar 5) (tOp (rI0 fun i j => .int (i - j)) (tVar 6) (tC (.int 1)))) (tC (.int 0)))))
      (fun i H' => Same H5 H' ∧ ∃ ks : List Int, H' D = some (.lst (ks.map V.int)) ∧ ks.length ≤ i ∧ ∀ k ∈ ks, 1 ≤ k ∧ k < us.length) ⟨same_new fD, [], upd_same, Nat.le_refl _, fun _ z => nomatch z⟩ ?_ ?_
    · rintro i H' hi ⟨s', ks, gD, lk, hk⟩
      have hi1 : i + 1 < us.length := by omega
      have e1 : us[i + 1]? = some us[i + 1] := List.getElem?_eq_getElem hi1
      have e0 : us[i]? = some (us[i]'(by omega)) := List.getElem?_eq_getElem _
      obtain ⟨t1, p1, x1, _, ht1⟩ := prs_at (prs_same s' pr5) e1
      obtain ⟨t0, p0, x0, _, ht0⟩ := prs_at (prs_same s' pr5) e0
      have c1 : (1 : Int) + (i : Nat) = ((i + 1 : Nat) : Int) := by omega
      have c0 : (1 : Int) + (i : Nat) - 1 = ((i : Nat) : Int) := by omega
      refine ⟨rfl, _, rfl, _, rfl, d, us, 1 + (i : Nat), .ref t1, rfl, rfl, SqL.of (s' _ _ gd5), by rw [c1]; exact atI_nat (by rw [e1, x1]), t1, _, 0, .int p1.1, rfl, rfl, SqT.of ht1, rfl, _, rfl, _, rfl, 1 + (i : Nat), 1, rfl, rfl, d, us, 1 + (i : Nat) - 1, .ref t0, rfl, rfl, SqL.of (s' _ _ gd5), by rw [c0]; exact atI_nat (by rw [e0, x0]), t0, _, 0, .int p0.1, rfl, rfl, SqT.of ht0, rfl, rfl, _, rfl, ?_⟩
      refine ite2 (fun _ => ?_) (fun _ => ?_)
      · refine ⟨_, rfl, _, gD, ?_, same_upd s' fD, ks ++ [1 + (i : Int)], ?_, by rw [List.length_append]; simp; omega, fun k hk' => ?_⟩
        · rw [List.length_map, sizeLine_eq]
          omega
        · rw [upd_same, List.map_append]
          rfl
        · rcases List.mem_append.mp hk' with h | h
          · exact hk k h
          · rw [List.mem_singleton.mp h]
            omega
      · exact ⟨s', ks, gD, by omega, hk⟩
    rintro H6 ⟨s6, ks, gD, lk, hk⟩
    refine ⟨sz1000 (by show 0 ≤ 1000; decide), fun e7 H7 f7 m7 s7 g7 => ?_⟩
    refine ⟨.list (ks.map .int), .list ([].map .int), .lst (SqL.of (s7 _ _ gD)) (dp_ints ks), .lst (SqL.of g7) (dp_ints []), shaped_ints ks, shaped_ints [], _, rfl, ?_⟩
    have s57 := s6.trans s7
    have S7 := S5.same s57
    refine ite2 (fun hne => ?_) (fun _ => ⟨_, rfl, fin H7 (LamX.ExtN.of s57) S7.tk⟩)
    -- the callable that raises
    have pos : 0 < ps.length := by
      cases ks with
      | nil => exact absurd hne (by simp [PyData.eqv, PyData.eqvAll])
      | cons k ks =>
        have := hk k List.mem_cons_self
        omega
    obtain ⟨ys7, ra7, ia7⟩ := S7.row
    obtain ⟨d7, t7, ha7, ht7⟩ := id ra7
    have gd7 := s57 _ _ gd5
    have lS7 := its_len ia7
    refine ⟨S7.tk, trivial, fun f8 c8 P8 H8 base8 e8 T8 T8' hc8 hfa8 FL8 => ?_⟩
    have ha8 := e8 _ _ ha7 fun _ z => nomatch z
    have ht8 := e8 _ _ ht7 fun _ z => nomatch z
    have gd8 := e8 _ _ gd7 fun _ z => nomatch z
    refine ⟨f8, _, rfl, hfa8, FL8, fun E' Q' herr _ => ?_⟩
    refine ⟨rfl, hc8, _, rfl, a, d7, _, rfl, ha8, rfl, T8' _ rfl, hc8, fun f9 c9 P9 H9 base9 e9 T9 _ hc9 hfa9 FL9 => ?_⟩
    have ha9 := e9 _ _ ha8 fun _ z => nomatch z
    have ht9 := e9 _ _ ht8 fun _ z => nomatch z
    have gd9 := e9 _ _ gd8 fun _ z => nomatch z
    have ra9 : RowAt K H9 a ys7 := ⟨d7, t7, ha9, ht9⟩
    have ia9 := its_ext e9 (its_ext e8 ia7)
    have T9' : Tk K H9 := T9.less fun p hp => List.mem_cons_of_mem _ hp
    have y0 : ys7[0]? = some (ys7[0]'(by omega)) := List.getElem?_eq_getElem _
    refine ⟨a, f9, d7, t7, ys7, _, _, fun _ => none, rfl, ha9, ht9, ia9, by omega, hfa9, FL9, T9', fun y hy H' Q2 s' _ => ?_, .inl ⟨_, List.mem_of_getElem? y0, rfl⟩⟩
    obtain ⟨da, ta, hda, hta⟩ := id (ra9.same s')
    refine ⟨rfl, s' _ _ hc9, _, rfl, _, rfl, .ref d, us.length, rfl, .inl ⟨_, SqL.of (s' _ _ gd9), rfl⟩, a, da, _, rfl, hda, .inl ⟨a, (us.length : Nat), ys7, _, rfl, ra9.same s', ia9.same s', by omega, fun h => absurd h.2 (by omega), fun _ dd H10 s10 g10 => ?_⟩⟩
    refine herr _ _ H10 ⟨("BadPlace", 6, "at"), (us.length : Nat), dd, by decide +kernel, rfl, rfl, g10, fun q H11 fq s11 g11 => ?_⟩
    -- the heap behind it all
    have eE : LamX.ExtN H5 H11 := (LamX.ExtN.of s57).trans (e8.trans (e9.trans (LamX.ExtN.of (s'.trans (s10.trans s11)))))
    have TE : Tk K H11 := Tbn.ext T9' (s'.trans (s10.trans s11))
    have S11 := S5.ext eE TE
    obtain ⟨ys11, ra11, ia11⟩ := S11.row
    have gd11 := (s'.trans (s10.trans s11)) _ _ gd9
    have pr11 : Prs H11 us (ps.mergeSort (leP wy)) := pr5.keep fun b xs z => eE _ _ z fun _ z => nomatch z
    refine ⟨_, rfl, _, rfl, .ref d, us.length, rfl, .inl ⟨_, SqL.of gd11, rfl⟩, sz1000 (by show 2 ≤ 1000; decide), fun q12 H12 f12 s12 g12 => ?_⟩
    have g11' : H12 q = some (.tup [.str "place", .int (us.length : Nat)]) := s12 _ _ g11
    refine ⟨placeD (us.length : Nat), placeD (us.length : Nat), dp_place g11', dp_place g12, shaped_place _, shaped_place _, _, rfl, ?_⟩
    rw [eqv_place]
    refine ite2 (fun z => absurd z (by simp)) fun _ => ?_
    refine told_ne (K := K) (i := 1) (j := 5) rfl rfl (ra11.same s12) (ia11.same s12) (by omega) (s12 _ _ gd11) (prs_same s12 pr11) gx fun H13 s13 => ⟨_, rfl, ite2 (fun z => absurd z (by simp)) fun _ => ?_⟩
    exact ⟨_, rfl, fin H13 (eE.trans (LamX.ExtN.of (s12.trans s13))) (Tbn.ext TE (s12.trans s13))⟩
end
end K09
namespace K09
open PySem PySem.Spec PyProof.Rows L2 He Tw
theorem pi_listK {X : Cx} (K : PySem.W.Frag) {tg l : Expr} {tl : TE} (hl : PE X l tl) (h : X.K = K := by rfl) : PI X tg l (iList K tl) := by
  subst h
  exact pi_list hl
abbrev s_lt : Stmt := topS 41
abbrev N_lt : List Str := ["_law_pen_here", "_law_row", "_law_pairs_here", "_law_doubles", "_law_pair", "_law_one", "_law_way", "_law_far", "_law_odd", "_law_heard_here"]
theorem sc_lt : FnScope N_lt ["_law_pen_here", "_law_row", "_law_pairs_here"] (defScope s_lt) := ⟨rfl, rfl, rfl, by decide +kernel, rfl, by decide +kernel, by decide +kernel⟩
def spLt (K : Fg) : Sp := fun vs H Q _ => ∃ (pn l a g : Addr) (c : Nat) (ps : List (Int × Str)), vs = [.ref pn, .ref a, .ref g] ∧ Sx K H pn l c a g ps ∧ c ≤ 500000 ∧ (∀ q ∈ ps, Gd q) ∧ ps.length ≤ 63 ∧
  ∀ (H' : Hp), Sx K H' pn l (c + 2) a g ps → Q (.bl true) H'
/-- the answers, none at the name u -/
def oddAt (H : Hp) (w : Nat) (u : Str) : V → Option V
  | .ref b => match H b with
    | some (.ins _ _ [_, (_, .str z)]) => if z = u then none else some (ansV w z)
    | _ => none
  | _ => none
theorem oddAt_it {K : Fg} {H : Hp} {w : Nat} {u : Str} {b : Addr} {i : Int} {z : Str} (h : It K H b i z) : oddAt H w u (.ref b) = if z = u then none else some (ansV w z) := by
  obtain ⟨dx, h⟩ := h
  unfold oddAt
  dsimp only
  rw [h]
/-- the callable that raises at one name -/
def tOdd (K : Fg) (E : XK) : TE := fun σ H Q => tTest (tOp rEq (tFld K (tVar 0) "name") (tVar 3)) σ H fun b H' => if b = true then tOp (rIxOwn (ga K "Row") (spGet K) E) (tVar 1) (tVar 2) σ H' Q else tCall spAns [] E0 (tCons (tVar 4) (tCons (tFld K (tVar 0) "name") tNil)) σ H' Q
section
variable {P : Program} {w : World} {K : Fg} {mg : Str → Option Value} {base : Heap} {fd : Nat → FuncData}
theorem G_lt (D : DefsK K fd) (T : Txt K mg) (tb : TBs K mg base) : FnOk P w K mg base CX0 14 (ga K "_law_late_right") (fd 33) ["_law_pen_here", "_law_row", "_law_pairs_here"] (spLt K) := by
  have zlen : mg "len" = none := T.bl (by decide +kernel)
  have gD := T.fn (x := "_law_draw") (by decide +kernel)
  have gA := T.fn (x := "_law_answer") (by decide +kernel)
  have gT := T.fn (x := "_law_told") (by decide +kernel)
  have gH := T.fn (x := "_law_heard") (by decide +kernel)
  have FD : FnP K "_law_draw" "_law_draw" s_draw (ga K "_law_draw") (fd 24) := D 24 _ rfl
  have G_draw : FnOk P w K mg base CX0 1 _ (fd 24) ["_law_pen_here", "_law_many"] spDrawL := ok_draw FD T
  have b_draw : Binds K (fd 24) ["_law_pen_here", "_law_many"] [] := FD.bindsN fun _ _ _ _ _ _ us hl => match us, hl with | [_, _], _ => rfl
  have gP := T.fn (x := "_law_pick") (by decide +kernel)
  have FP : FnP K "_law_pick" "_law_pick" s_pick (ga K "_law_pick") (fd 25) := D 25 _ rfl
  have G_pick : FnOk P w K mg base CX0 2 _ (fd 25) ["_law_pen_here", "_law_some"] (spPickL K) := ok_pick FP FD gD T
  have b_pick : Binds K (fd 25) ["_law_pen_here", "_law_some"] [] := FP.bindsN fun _ _ _ _ _ _ us hl => match us, hl with | [_, _], _ => rfl
  have FA : FnP K "_law_answer" "_law_answer" s_ans (ga K "_law_answer") (fd 30) := D 30 _ rfl
  have GA : ∀ base : Heap, FnOk P w K mg base CX0 1 _ (fd 30) ["_law_way", "_law_name"] spAns := fun base => ok_ans FA T
  have bA : Binds K (fd 30) ["_law_way", "_law_name"] [] := FA.bindsN fun _ _ _ _ _ _ us hl => match us, hl with | [_, _], _ => rfl
  have FT : FnP K "_law_told" "_law_told" s_told (ga K "_law_told") (fd 28) := D 28 _ rfl
  have GT : FnOk P w K mg base CX0 1 _ (fd 28) ["_law_listed"] (spTold K) := ok_told FT T
  have bT : Binds K (fd 28) ["_law_listed"] [] := FT.bindsN fun _ _ _ _ _ _ us hl => match us, hl with | [_], _ => rfl
  have FLi : FnP K "listed" "Row.listed" s_lst (ma K (ga K "Row") "listed") (fd 8) := D 8 _ rfl
  have GLi : FnOk P w K mg base CX0 1 _ (fd 8) ["self"] (spListed K) := ok_lst FLi T
  have bLi : Binds K (fd 8) ["self"] [] := FLi.bindsN fun _ _ _ _ _ _ us hl => match us, hl with | [_], _ => rfl
  have mL := T.mtR (m := "listed") (by decide +kernel)
  have FSe : FnP K "settle" "Row.settle" s_sl (ma K (ga K "Row") "settle") (fd 46) := D 46 _ rfl
  have GSe : ∀ base' : Heap, Sub base base' → FnOk P w K mg base' (L2.CX P w) 8 _ (fd 46) ["self", "by"] (spSl P w K mg base') := fun base' s => G_sl D T (tb.up s)
  have bSe : Binds K (fd 46) ["self", "by"] [] := FSe.bindsN fun _ _ _ _ _ _ us hl => match us, hl with | [_, _], _ => rfl
  have RSe : ∀ base' : Heap, Sub base base' → FnR P w K mg base' (L2.CX P w) 8 _ (spSl P w K mg base') := fun base' s => (FnOk.raw (GSe base' s) bSe .nil).imp fun vs H Q E h => by rw [List.append_nil]; exact h
  have mS := T.mtR2 (m := "settle") (by decide +kernel)
  have FH : FnP K "_law_heard" "_law_heard" s_heard (ga K "_law_heard") (fd 29) := D 29 _ rfl
  have bH : Binds K (fd 29) ["_law_ask"] [] := FH.bindsN fun _ _ _ _ _ _ us hl => match us, hl with | [_], _ => rfl
  have RH : ∀ base' : Heap, Sub base base' → FnR P w K mg base' CX0 11 _ (spHF 10 P w K mg base') := fun base' s => (FnOk.raw (G_heard FH T) bH .nil).imp fun vs H Q E h => by rw [List.append_nil]; exact h
  have FG : FnP K "__getitem__" "Row.__getitem__" s_get (ma K (ga K "Row") "__getitem__") (fd 43) := D 43 _ rfl
  have GG : ∀ base : Heap, FnOk P w K mg base (L2.CX P w) 4 (ma K (ga K "Row") "__getitem__") (fd 43) ["self", "at"] (spGet K) := fun base => G_get D T
  have bG : Binds K (fd 43) ["self", "at"] [] := FG.bindsN fun _ _ _ _ _ _ us hl => match us, hl with | [_, _], _ => rfl
  have fG := fnIn_of FG
  have mG := T.mtR2 (m := "__getitem__") (by decide +kernel)
  have TB := tb (fun K => ga K "_law_late_right") (by simp [tabs])
  have F : FnP K "_law_late_right" "_law_late_right" s_lt (ga K "_law_late_right") (fd 33) := D 33 _ rfl
  obtain ⟨oc, od, dV, kV, doc, pm, an, cdv, ct, osl, e0, lk, hcd, _, _⟩ := F.ex
  rw [e0] at lk ⊢
  obtain ⟨cc, rfl⟩ := codeIn_ref hcd
  have ec : Tw.codeAt K (ga K "_law_late_right") = cc := by
    unfold Tw.codeAt
    rw [lk]
  rw [ec] at TB
  have hmT : (tabAt K (ga K "_law_late_right"), nm "_law_late_right") ∈ Tb K := by simp [Tb]
  refine fn_of lk hcd sc_lt (fun vs H Q E h => ?_) (fun A outer s H vs Q E hr h => ?_)
  · obtain ⟨pn, l, a, g, c, ps, rfl, _⟩ := h
    rfl
  · obtain ⟨pn, l, a, g, c, ps, rfl, S0, hc, gd, few, k⟩ := h
    refine ⟨_, PSs.nox (pss_cons (ps_setLc (i := 3) (own := [("_law_pair", 4)]) (g := gName 4) (by rfl) sc_lt.nd rfl rfl (sw_true rfl rfl rfl (by decide +kernel)) (pi_list (pv 2)) (blkOk_by (own := [("_law_pair", 4)]) (N := N_lt) (sc := defScope s_lt) (by decide +kernel)) (fun _ _ _ _ _ => (pg_name (i := 4) sc_lt.nd rfl (Or.inr rfl)))
      (fun _ _ _ _ _ => pts_one (pt_cmpR op_gt (pe_callB (lenK K) (by rfl) zlen (by decide +kernel) (pa_cons (pe_lc (own := [("_law_one", 5)]) (g := gName 5) (by rfl) sc_lt.nd (pi_listK K (pv 2)) (blkOk_by (own := [("_law_one", 5)]) (N := N_lt) (by rfl)) (fun _ _ _ _ _ => (pg_name (i := 5) sc_lt.nd rfl (Or.inl rfl))) (fun _ _ _ _ _ => pts_one (pt_cmpR op_eq (pe_ix (ixt K) (pv 5) pe_int (fun _ _ => rfl)) (pe_ix (ixt K) (pv 4) pe_int (fun _ _ => rfl)) (nomark _))) (fun _ _ _ _ _ => (pv 5))) pa_nil)) pe_int (nomark _))) (fun _ _ _ _ _ => (pv 4)))
    (pss_cons (ps_if (pt_cmpR (op_eqD hr.units) (pv 3) (pe_lstN pa_nil) (nomark _)) (pss_one (ps_ret pe_bl)) pss_nil)
    (pss_cons (ps_asg (pe_tupN (pa_cons (pe_call G_draw (hr.mono (by decide)) rfl gD FD.kp b_draw .nil pass0 (pa_cons (pv 0) (pa_cons pe_int pa_nil))) (pa_cons (pe_callB call_len (by rfl) zlen (by decide +kernel) (pa_cons (pv 2) pa_nil)) pa_nil))) (pg_tup (by rfl) (pgs_cons (pg_name (i := 6) sc_lt.nd rfl (Or.inr rfl)) (pgs_cons (pg_name (i := 7) sc_lt.nd rfl (Or.inr rfl)) pgs_nil))))
    (pss_cons (ps_set (i := 8) sc_lt.nd rfl (Or.inr rfl) (pe_ix (ixt K) (pe_call G_pick (hr.mono (by decide)) rfl gP FP.kp b_pick .nil pass0 (pa_cons (pv 0) (pa_cons (pv 3) pa_nil))) pe_int (fun _ _ => rfl)))
    (pss_cons (ps_set (i := 9) sc_lt.nd rfl (Or.inl rfl)
        (pe_lamG (E := fun _ => E0) (CX := CX0) (host := host) (L := Tb K) (pre := fun _ => True) (k := 9) (xs := []) (cs := ["_law_row", "_law_far", "_law_odd", "_law_way"]) (caps := [1, 7, 8, 6]) (tb := fun c' P' E => tLamM P w K mg host ((P', nm (nm "_law_late_right")) :: Tb K) (fun H => H c' = some (CodeN c' (nm "_law_late_right") P')) (nm (nm "_law_late_right")) 5 1 (fun _ _ E => tOdd K E) [0, 1, 2, 3] (ga K "Row") "settle" (spSl P w K mg) (fun _ => E) (tVar 0)) (Pr := P) (wo := w) (K := K) (mg := mg) (qn := nm "_law_late_right")
          (by exact ⟨made_def TB rfl hmT, bmIn TB, cellsOut_def (fun _ => rfl), lamQ_by (sc := defScope s_lt) (by decide +kernel), (caps_by (N := N_lt) (by decide +kernel)), rfl, by decide +kernel, rfl, (fun us _ _ _ _ _ hu => match us, hu with | [], _ => rfl),
            (fun base A outer s1 H1 E f c' P' hsub hr2 hout => pe_lamM (E := fun _ => E) (xs := ["_law_item"]) (cs := ["_law_row", "_law_far", "_law_odd", "_law_way"]) (caps := [0, 1, 2, 3]) (pe_var (x := "_law_row") (i := 0) rfl (.inr (.inr rfl))) T.clsR mS
              (by exact ⟨made_lam rfl List.mem_cons_self, (bmIn TB).up hsub, hout, lamQ_by (by rfl), (caps_by (N := ["_law_row", "_law_far", "_law_odd", "_law_way"]) (by decide +kernel)), rfl, by decide +kernel, rfl, (fun us _ _ _ _ _ hu => match us, hu with | [_], _ => rfl),
                (fun base3 A3 outer3 s3 H3 E3 f3 c3 P3 hsub3 hr3 hout3 => pe_ifExp (pt_cmpR op_eq (fldK K (pe_var (x := "_law_item") (i := 0) rfl (.inl rfl))) (pe_var (x := "_law_odd") (i := 3) rfl (.inr (.inr rfl))) (nomark _)) (pe_ixOwn (E := E3) mG.at_ mG.fn fG (GG base3) (hr3.mono (by decide)) bG (passes_call (takes_of rfl rfl rfl rfl) (fun _ _ _ _ h => h)) (pe_var (x := "_law_row") (i := 1) rfl (.inr (.inr rfl))) (pe_var (x := "_law_far") (i := 2) rfl (.inr (.inr rfl)))) (pe_call (E := E0) (GA base3) (hr3.mono (by decide)) rfl gA FA.kp bA .nil pass0 (pa_cons (pe_var (x := "_law_way") (i := 4) rfl (.inr (.inr rfl))) (pa_cons (fldK K (pe_var (x := "_law_item") (i := 0) rfl (.inl rfl))) pa_nil))))⟩)
              (fun base' s' => RSe base' (hsub.trans s')) (hr2.mono (by decide)) (fun σ pins H s e s' I c => (passes_call (takes_of rfl rfl rfl rfl) (fun _ _ _ _ h => h)) pins σ H s e s' I c))⟩)
          RH (hr.mono (by decide)) rfl gH FH.kp (fun σ pins H s e s' I c => c.elim)))
    (pss_one (ps_ret (pe_and (pe_cmpR (op_eqD hr.units) (pv 9) (pe_tupN (pa_cons pe_str (pa_cons (pv 7) pa_nil))) (nomark _)) (pe_one (pe_cmpR (op_eqD hr.units) (pe_call (E := E0) GT (hr.mono (by decide)) rfl gT FT.kp bT .nil pass0 (pa_cons (pe_meth0 (E := E0) (pv 1) T.clsR mL GLi (hr.mono (by decide)) bLi .nil pass0) pa_nil)) (pv 2) (nomark _))))))))))), ?_⟩
    obtain ⟨ts, hg, prs⟩ := S0.lst
    have lt : ts.length = ps.length := Paired.length prs
    have gx : ∀ q ∈ ps, textOk q.2 = true := fun q hq => (gd q hq).2.1
    refine ⟨_, rfl, g, rfl, ⟨ts, SqL.of hg⟩, fun D fD => ?_⟩
    refine lc_list (K := K) (a := g) (xs := ts) (g := gName 4) (te := tVar 4) (vs := [4]) (σ := [some (.ref pn), some (.ref a), some (.ref g), none, none, none, none, none, none, none])
      (tt := tTest (tOp (rI0 fun i j => V.bl (decide (j < i))) (tCB (fun xs H Q => ∃ x n, xs = [x] ∧ LenV K x H n ∧ Q (V.int ↑n) H) (tCons (tLc (iList K (tVar 2)) (gName 5) (tTest (tOp rEq (tOp (rIxT K) (tVar 5) (tC (V.int 0))) (tOp (rIxT K) (tVar 4) (tC (V.int 0))))) (tVar 5) [5]) tNil)) (tC (V.int 1))))
      (fun i H' => Same H H' ∧ ∃ (xs : List V) (qs : List (Int × Str)), H' D = some (.lst xs) ∧ xs.length ≤ i ∧ Prs H' xs qs ∧ ∀ q ∈ qs, q ∈ ps) ⟨same_new fD, [], [], upd_same, Nat.le_refl _, .nil, fun _ z => nomatch z⟩ (fun i H' _ z => SqL.of (z.1 _ _ hg)) ?_ ?_
    · rintro i x H1 hx ⟨s1, xs, qs, gD, lx, px, hq⟩
      obtain ⟨t0, p0, rfl, ep, ht0⟩ := prs_at (prs_same s1 prs) hx
      have hi : i < ts.length := (List.getElem?_eq_some_iff.mp hx).1
      refine ⟨rfl, _, rfl, g, rfl, ⟨ts, SqL.of (s1 _ _ hg)⟩, fun D2 fD2 => ?_⟩
      refine lc_list (K := K) (a := g) (xs := ts) (g := gName 5) (te := tVar 5) (vs := [5]) (σ := [some (.ref pn), some (.ref a), some (.ref g), none, some (.ref t0), none, none, none, none, none])
        (tt := tTest (tOp rEq (tOp (rIxT K) (tVar 5) (tC (V.int 0))) (tOp (rIxT K) (tVar 4) (tC (V.int 0)))))
        (fun j H' => Same H1 H' ∧ ∃ (zs : List V), H' D2 = some (.lst zs) ∧ zs.length ≤ j) ⟨same_new fD2, [], upd_same, Nat.le_refl _⟩ (fun i H' _ z => SqL.of (z.1 _ _ (s1 _ _ hg))) ?_ ?_
      · rintro j y H2 hy ⟨s2, zs, gD2, lz⟩
        obtain ⟨t1, p1, rfl, _, ht1⟩ := prs_at (prs_same (s1.trans s2) prs) hy
        have hj : j < ts.length := (List.getElem?_eq_some_iff.mp hy).1
        refine ⟨rfl, _, rfl, t1, _, 0, .int p1.1, rfl, rfl, SqT.of ht1, rfl, _, rfl, t0, _, 0, .int p0.1, rfl, rfl, SqT.of (s2 _ _ ht0), rfl, rfl, _, rfl, ?_⟩
        refine ite2 (fun _ => ⟨_, rfl, zs, gD2, by rw [sizeLine_eq]; omega, same_upd s2 fD2, _, upd_same, by rw [List.length_append]; simp; omega⟩) (fun _ => ⟨s2, zs, gD2, by omega⟩)
      · rintro H2 ⟨s2, zs, gD2, lz⟩
        refine ⟨.ref D2, zs.length, rfl, .inl ⟨_, SqL.of gD2, rfl⟩, _, _, rfl, rfl, _, rfl, ?_⟩
        have s12 := s1.trans s2
        refine ite2 (fun _ => ⟨_, rfl, xs, s2 _ _ gD, by rw [sizeLine_eq]; omega, same_upd s12 fD, xs ++ [.ref t0], qs ++ [p0], upd_same, by rw [List.length_append]; simp; omega, ?_, fun q hq' => ?_⟩) (fun _ => ⟨s12, xs, qs, s2 _ _ gD, by omega, prs_same s2 px, hq⟩)
        · refine prs_app (ps := qs) (qs := [p0]) ((prs_same s2 px).keep fun b us z => ?_) (.cons ⟨t0, rfl, ?_⟩ .nil)
          · rw [upd_ne (fun z' => by rw [z', s2 _ _ gD] at z; cases z)]
            exact z
          · rw [upd_ne (fun z' => by have := s2 _ _ ht0; rw [z', s2 _ _ gD] at this; cases this)]
            exact s2 _ _ ht0
        · rcases List.mem_append.mp hq' with h | h
          · exact hq q h
          · rw [List.mem_singleton.mp h]
            exact List.mem_of_getElem? ep
    rintro H1 ⟨s1, xs, qs, gD, lx, px, hq⟩
    have lxq : xs.length = qs.length := Paired.length px
    have gq : ∀ q ∈ qs, textOk q.2 = true := fun q h => gx q (hq q h)
    refine ⟨_, rfl, sz1000 (by show 0 ≤ 1000; decide), fun e2 H2 f2 m2 s2 g2 => ?_⟩
    have s02 := s1.trans s2
    refine ⟨.list (qs.map pd), .list (([] : List (Int × Str)).map pd), .lst (SqL.of (s2 _ _ gD)) (dp_prs (prs_same s2 px)), .lst (SqL.of g2) .nil, shaped_prs gq, (shaped_prs (ps := []) (fun _ z => nomatch z)), _, rfl, ?_⟩
    refine ite2 (fun _ => k H2 ((S0.same s02).mono (by omega))) fun hne => ?_
    have pos : 0 < xs.length := by
      cases qs with
      | nil => exact absurd rfl hne
      | cons q qs =>
        rw [List.length_cons] at lxq
        omega
    have S2 := S0.same s02
    refine ⟨_, rfl, pn, l, 4, c, rfl, by decide, by decide, S2.P, by omega, fun r H3 r0 r1 P3 B3 => ?_⟩
    obtain ⟨wy, rfl, hwy⟩ : ∃ m : Nat, r = (m : Int) ∧ m < 4 := ⟨r.toNat, by omega, by omega⟩
    have S3 := S2.pen B3 P3
    have hDn : D ≠ pn := (S0.P.new fD).1
    have gD3 := B3 _ _ (s2 _ _ gD) hDn
    have px3 : Prs H3 xs qs := (prs_same s2 px).keep fun b us z => B3 _ _ z (ne_pen S2.P z fun _ z => nomatch z)
    obtain ⟨ts3, hg3, prs3⟩ := S3.lst
    have lt3 : ts3.length = ps.length := Paired.length prs3
    refine ⟨_, rfl, .ref g, ps.length, rfl, .inl ⟨ts3, SqL.of hg3, lt3.symm⟩, sz1000 (by show 2 ≤ 1000; decide), fun q4 H4 f4 s4 g4 => ?_⟩
    refine ⟨q4, _, rfl, SqT.of g4, rfl, ?_⟩
    refine ⟨_, _, rfl, _, _, rfl, rfl, ?_⟩
    have S4 := S3.same s4
    have px4 := prs_same s4 px3
    refine ⟨_, rfl, _, rfl, pn, l, D, xs, c + 1, rfl, SqL.of (s4 _ _ gD3), hDn, pos, by omega, S4.P, by omega, fun v H5 hv P5 B5 => ?_⟩
    obtain ⟨iv, hiv⟩ := List.getElem?_of_mem hv
    obtain ⟨tv, pv', rfl, ev, htv⟩ := prs_at px4 hiv
    have mv : pv' ∈ ps := hq _ (List.mem_of_getElem? ev)
    have S5 := S4.pen B5 P5
    have htv5 := B5 _ _ htv (ne_pen S4.P htv fun _ z => nomatch z)
    refine ⟨tv, _, 1, .str pv'.2, rfl, rfl, SqT.of htv5, rfl, ?_⟩
    have fin : ∀ H', LamX.ExtN H5 H' → Tk K H' → Q (.bl true) H' := fun H' e t' => k H' (S5.ext e t')
    obtain ⟨ys5, ra5, ia5⟩ := S5.row
    obtain ⟨d5, t5, ha5, ht5⟩ := id ra5
    refine ⟨S5.tk, trivial, fun f8 c8 P8 H8 base8 e8 T8 T8' hc8 hfa8 FL8 => ?_⟩
    have ha8 := e8 _ _ ha5 fun _ z => nomatch z
    have ht8 := e8 _ _ ht5 fun _ z => nomatch z
    refine ⟨f8, _, rfl, hfa8, FL8, fun E' Q' herr _ => ?_⟩
    refine ⟨rfl, hc8, _, rfl, a, d5, _, rfl, ha8, rfl, T8' _ rfl, hc8, fun f9 c9 P9 H9 base9 e9 T9 _ hc9 hfa9 FL9 => ?_⟩
    have ha9 := e9 _ _ ha8 fun _ z => nomatch z
    have ht9 := e9 _ _ ht8 fun _ z => nomatch z
    have ra9 : RowAt K H9 a ys5 := ⟨d5, t5, ha9, ht9⟩
    have ia9 := its_ext e9 (its_ext e8 ia5)
    have T9' : Tk K H9 := T9.less fun p hp => List.mem_cons_of_mem _ hp
    have lS5 := its_len ia5
    obtain ⟨iy, hiy⟩ := List.getElem?_of_mem mv
    obtain ⟨by', ey, Ity⟩ := its_at ia9 hiy
    refine ⟨a, f9, d5, t5, ys5, _, _, oddAt H9 wy pv'.2, rfl, ha9, ht9, ia9, by omega, hfa9, FL9, T9', fun y hy H' Q2 s' ky => ?_, .inl ⟨_, List.mem_of_getElem? ey, by rw [oddAt_it Ity, if_pos rfl]⟩⟩
    obtain ⟨b, p, rfl, hp, It9⟩ := its_mem ia9 hy
    obtain ⟨db, hb⟩ := id It9
    have gp := (gd p hp).2.2
    refine ⟨rfl, s' _ _ hc9, _, rfl, b, _, db, _, _, rfl, s' _ _ hb, T.cls, T.na (by decide +kernel), rfl, _, rfl, rfl, _, rfl, ?_⟩
    show if decide (V.str p.2 = V.str pv'.2) = true then _ else _
    by_cases hn : p.2 = pv'.2
    · rw [if_pos (decide_eq_true (congrArg V.str hn))]
      obtain ⟨da, ta, hda, hta⟩ := id (ra9.same s')
      refine ⟨_, rfl, _, rfl, a, da, _, rfl, hda, .inl ⟨a, (ps.length : Nat), ys5, _, rfl, ra9.same s', ia9.same s', by omega, fun h => absurd h.2 (by omega), fun _ dd H10 s10 g10 => ?_⟩⟩
      refine herr _ _ H10 ⟨("BadPlace", 6, "at"), (ps.length : Nat), dd, by decide +kernel, rfl, rfl, g10, fun q H11 fq s11 g11 => ?_⟩
      -- the heap behind it all
      have eE : LamX.ExtN H5 H11 := e8.trans (e9.trans (LamX.ExtN.of (s'.trans (s10.trans s11))))
      have TE : Tk K H11 := Tbn.ext T9' (s'.trans (s10.trans s11))
      have S11 := S5.ext eE TE
      obtain ⟨ys11, ra11, ia11⟩ := S11.row
      obtain ⟨ts11, hg11, pr11⟩ := S11.lst
      refine ⟨_, rfl, _, rfl, sz1000 (by show 2 ≤ 1000; decide), fun q12 H12 f12 s12 g12 => ?_⟩
      have g11' : H12 q = some (.tup [.str "place", .int (ps.length : Nat)]) := s12 _ _ g11
      refine ⟨placeD (ps.length : Nat), placeD (ps.length : Nat), dp_place g11', dp_place g12, shaped_place _, shaped_place _, ?_⟩
      rw [eqv_place]
      refine ⟨true, rfl, ?_⟩
      rw [if_pos rfl]

      refine told_eq (K := K) (i := 1) (j := 2) rfl rfl (ra11.same s12) (ia11.same s12) (by omega) (s12 _ _ hg11) (prs_same s12 pr11) gx fun H13 s13 => ?_
      exact fin H13 (eE.trans (LamX.ExtN.of (s12.trans s13))) (Tbn.ext TE (s12.trans s13))
    · rw [if_neg (by rw [decide_eq_true_eq]; exact fun z => hn (by injection z))]
      refine ⟨_, rfl, _, rfl, b, _, db, _, _, rfl, s' _ _ hb, T.cls, T.na (by decide +kernel), rfl, wy, p.2, rfl, hwy, by omega, fun H'' s'' => ?_⟩
      exact ky _ (by rw [oddAt_it It9, if_neg hn]) H'' s''
end
end K09
namespace K09
open PySem PySem.Spec PyProof.Rows L2 He Tw
/-- lists of pairs, at addresses that are N -/
def Pz (N : Addr → Prop) (H : Hp) (ls : List V) (qss : List (List (Int × Str))) : Prop := Paired (fun v q => ∃ b us, v = .ref b ∧ N b ∧ H b = some (.lst us) ∧ Prs H us q ∧ q.length ≤ 3 ∧ Asc q ∧ ∀ x ∈ q, Gd x) ls qss
theorem Pz.keep {N N' : Addr → Prop} {H H' : Hp} (n : ∀ b us, N b → H b = some (.lst us) → N' b ∧ H' b = some (.lst us)) (t : ∀ b xs, H b = some (.tup xs) → H' b = some (.tup xs)) : ∀ {ls : List V} {qss : List (List (Int × Str))}, Pz N H ls qss → Pz N' H' ls qss
  | _, _, .nil => .nil
  | _, _, .cons ⟨b, us, h1, h2, h3, h4, h5⟩ r => .cons ⟨b, us, h1, (n b us h2 h3).1, (n b us h2 h3).2, h4.keep t, h5⟩ (Pz.keep n t r)
theorem Pz.pss {N : Addr → Prop} {H : Hp} : ∀ {ls : List V} {qss : List (List (Int × Str))}, Pz N H ls qss → Pss H ls qss
  | _, _, .nil => .nil
  | _, _, .cons ⟨b, us, h1, _, h3, h4, h5, _⟩ r => .cons ⟨b, us, h1, h3, h4, h5⟩ (Pz.pss r)
theorem Pz.good {N : Addr → Prop} {H : Hp} : ∀ {ls : List V} {qss : List (List (Int × Str))}, Pz N H ls qss → (∀ q ∈ qss, ∀ x ∈ q, Gd x) ∧ ∀ q ∈ qss, q.length ≤ 3
  | _, _, .nil => ⟨(fun _ h => nomatch h), fun _ h => nomatch h⟩
  | _, _, .cons ⟨b, us, h1, _, h3, h4, h5, _, h6⟩ r => by
    obtain ⟨g1, g2⟩ := Pz.good r
    refine ⟨fun q hq => ?_, fun q hq => ?_⟩ <;> rcases List.mem_cons.mp hq with rfl | hq
    · exact h6
    · exact g1 q hq
    · exact h5
    · exact g2 q hq
theorem Pz.at {N : Addr → Prop} {H : Hp} : ∀ {ls : List V} {qss : List (List (Int × Str))} {i : Nat} {x : V}, Pz N H ls qss → ls[i]? = some x → ∃ b us q, x = .ref b ∧ qss[i]? = some q ∧ N b ∧ H b = some (.lst us) ∧ Prs H us q ∧ q.length ≤ 3 ∧ Asc q ∧ ∀ x ∈ q, Gd x
  | _, _, 0, _, .cons ⟨b, us, h1, h2⟩ _, e => by
    cases e
    exact ⟨b, us, _, h1, rfl, h2⟩
  | _, _, n + 1, _, .cons _ r, e => Pz.at (i := n) (show Pz N H _ _ from r) e
theorem pz_app {N : Addr → Prop} {H : Hp} {xs ys : List V} {ps qs : List (List (Int × Str))} (h : Pz N H xs ps) (g : Pz N H ys qs) : Pz N H (xs ++ ys) (ps ++ qs) := paired_ap g h
/-- but for lists nothing changes -/
def NL (H H' : Hp) : Prop := ∀ b u, H b = some u → (∀ xs, u ≠ .lst xs) → H' b = some u
theorem nl_pen {H H' : Hp} {p l : Addr} {c : Nat} (P : PenL H p l c) (e : But p H H') : NL H H' := fun b u h n => e b u h (ne_pen P h n)
theorem nl_upd {H : Hp} {D : Addr} {xs : List V} {o : HO} (h : H D = some (.lst xs)) : NL H (upd H D o) := fun b u e n => by
  rw [upd_ne fun z => ?_]
  · exact e
  · rw [z, h] at e
    exact n _ (Option.some.inj e).symm
theorem NL.its {K : Fg} {H H' : Hp} (e : NL H H') : ∀ {ys : List V} {ps : List (Int × Str)}, Its K H ys ps → Its K H' ys ps
  | _, _, .nil => .nil
  | _, _, .cons ⟨b, h1, dx, h2⟩ t => .cons ⟨b, h1, dx, e _ _ h2 fun _ z => nomatch z⟩ (NL.its e t)
theorem NL.row {K : Fg} {H H' : Hp} (e : NL H H') {a : Addr} {ys : List V} (h : RowAt K H a ys) : RowAt K H' a ys := by
  obtain ⟨dx, t, h1, h2⟩ := h
  exact ⟨dx, t, e _ _ h1 (fun _ z => nomatch z), e _ _ h2 (fun _ z => nomatch z)⟩
theorem NL.rws {K : Fg} {H H' : Hp} {a : Addr} (e : NL H H') : ∀ {rs : List V} {qss : List (List (Int × Str))}, Rws K H a rs qss → Rws K H' a rs qss
  | _, _, .nil => .nil
  | _, _, .cons ⟨r, zs, h1, h2, h3, h4, h5⟩ t => .cons ⟨r, zs, h1, h2, e.row h3, e.its h4, h5⟩ (NL.rws e t)
theorem seq_asg {te : TE} {g : TG} {u : TS} {D} {σ : L2.St} {H : Hp} (h : te σ H fun v H' => g v σ H' fun σ' H'' => u D σ' H'') : tSeq (tAsg te g) u D σ H := h
theorem yes_if {σ : L2.St} {H : Hp} {A B : Hp → Prop} (h : A H) : tYes σ H (fun b H3 => if b = true then A H3 else B H3) := by
  show if true = true then A H else B H
  rw [if_pos rfl]
  exact h
/-- [_law_pairs(pen, 3) for k in range(_law_draw(pen, 3))] -/
theorem lc_prs {H : Hp} {pn l : Addr} {c : Nat} {v1 v2 v3 v4 : Option V} {τ : L2.St} {Q : VK} (P : PenL H pn l c) (hc : c ≤ 499000)
    (k : ∀ D H' xs qss, PenL H' pn l (c + 601) → But pn H H' → H D = none → D ≠ pn → H' D = some (.lst xs) → Pz (fun b => b ≠ pn) H' xs qss → qss.length ≤ 2 → Q (.ref D) H') :
    tLc (iRng1 (tCons (tCall spDrawL [] E0 (tCons (tVar 0) (tCons (tC (.int 3)) tNil))) tNil)) (gName 4) tYes (tCall spPairs [] E0 (tCons (tVar 0) (tCons (tC (.int 3)) tNil))) [4] (some (.ref pn) :: v1 :: v2 :: v3 :: v4 :: τ) H Q := by
  refine ⟨_, rfl, pn, l, 3, c, rfl, by decide, by decide, P, by omega, fun r H1 r0 r1 P1 B1 => ?_⟩
  refine ⟨r, rfl, by omega, by omega, fun D fD => ?_⟩
  have nD := P1.new fD
  have fD0 : H D = none := B1.free fD nD.1
  refine lc_range (lo := 0) (n := r.toNat) (g := gName 4) (tt := tYes) (te := tCall spPairs [] E0 (tCons (tVar 0) (tCons (tC (.int 3)) tNil))) (vs := [4]) (σ := some (.ref pn) :: v1 :: v2 :: v3 :: v4 :: τ)
    (fun i H' => PenL H' pn l (c + 1 + 300 * i) ∧ But pn H H' ∧ ∃ xs qss, H' D = some (.lst xs) ∧ xs.length = i ∧ Pz (fun b => b ≠ pn ∧ b ≠ D) H' xs qss) ⟨P1.upd nD.1 nD.2, B1.trans (But.of (same_new fD)), [], [], upd_same, rfl, .nil⟩ ?_ ?_
  · rintro i H' hi ⟨P', B', xs, qss, gD, lx, hz⟩
    refine ⟨rfl, yes_if ?_⟩
    refine ⟨_, rfl, pn, l, 3, _, rfl, by decide, P', by omega, fun f H2 ts ps P2 B2 f2 n2 g2 pr l2 up gd => ?_⟩
    have gD2 := B2 _ _ gD nD.1
    have nf : f ≠ D := fun z => by rw [z, gD] at f2; cases f2
    refine ⟨xs, gD2, by rw [sizeLine_eq]; omega, (P2.upd nD.1 nD.2).mono (by omega), (fun b u e n => by rw [upd_ne (ne_of_none e fD0)]; exact B2 _ _ (B' _ _ e n) n), xs ++ [.ref f], qss ++ [ps], upd_same, by rw [List.length_append, lx]; rfl, pz_app (hz.keep (fun b us hN hb => ⟨hN, ?_⟩) fun b us hb => ?_) (.cons ⟨f, ts, rfl, ⟨n2, nf⟩, ?_, pr.keep fun b us hb => ?_, l2, up_asc up (Nat.le_succ _), gd⟩ .nil)⟩
    · rw [upd_ne hN.2]
      exact B2 _ _ hb hN.1
    · exact nl_upd gD2 b _ (nl_pen P' B2 b _ hb fun _ z => nomatch z) fun _ z => nomatch z
    · rw [upd_ne nf]
      exact g2
    · exact nl_upd gD2 b _ hb fun _ z => nomatch z
  · rintro H2 ⟨P2, B2, xs, qss, gD, lx, hz⟩
    have lq : xs.length = qss.length := Paired.length hz
    exact k D H2 xs qss (P2.mono (by omega)) B2 fD0 nD.1 gD (hz.keep (fun b us hN hb => ⟨hN.1, hb⟩) fun _ _ h => h) (by omega)
/-- [Row(_law_values(pen, one)) for one in some] -/
theorem lc_rws {K : Fg} {H : Hp} {pn l a G : Addr} {c n : Nat} {u : HO} {xs : List V} {qss : List (List (Int × Str))} {v1 v2 v3 v4 v5 v6 v7 v8 : Option V} {τ : L2.St} {Q : VK} (hn : (some (.ref pn) :: v1 :: v2 :: v3 :: v4 :: v5 :: v6 :: v7 :: v8 :: τ)[n]? = some (some (.ref G))) (P : PenL H pn l c) (hc : c ≤ 499000) (hG : H G = some (.lst xs)) (nG : G ≠ pn) (hz : Pz (fun b => b ≠ pn) H xs qss) (few : xs.length ≤ 2) (ha : H a = some u) (na : a ≠ pn)
    (k : ∀ D H' rs, PenL H' pn l (c + 6) → But pn H H' → H D = none → D ≠ pn → H' D = some (.lst rs) → Rws K H' a rs qss → Q (.ref D) H') :
    tLc (iList K (tVar n)) (gName 8) tYes (tMake (ga K "Row") (spRow K) [] E0 (tCons (tCall (spValues K) [] E0 (tCons (tVar 0) (tCons (tVar 8) tNil))) tNil)) [8] (some (.ref pn) :: v1 :: v2 :: v3 :: v4 :: v5 :: v6 :: v7 :: v8 :: τ) H Q := by
  refine ⟨_, hn, G, rfl, ⟨_, SqL.of hG⟩, fun D fD => ?_⟩
  have nD := P.new fD
  have nGD : G ≠ D := ne_of_none hG fD
  refine lc_list (K := K) (a := G) (xs := xs) (g := gName 8) (tt := tYes) (te := tMake (ga K "Row") (spRow K) [] E0 (tCons (tCall (spValues K) [] E0 (tCons (tVar 0) (tCons (tVar 8) tNil))) tNil)) (vs := [8]) (σ := some (.ref pn) :: v1 :: v2 :: v3 :: v4 :: v5 :: v6 :: v7 :: v8 :: τ)
    (fun i H' => PenL H' pn l (c + 3 * i) ∧ But pn H H' ∧ ∃ rs, H' D = some (.lst rs) ∧ rs.length = i ∧ Rws K H' a rs (qss.take i)) ⟨P.upd nD.1 nD.2, But.of (same_new fD), [], upd_same, rfl, .nil⟩ (fun i H' _ z => SqL.of (z.2.1 _ _ hG nG)) ?_ ?_
  · rintro i x H' hx ⟨P', B', rs, gD, lx, hr⟩
    obtain ⟨b, us, q, rfl, hq, nb, hb, pq, lq, aq, gq⟩ := Pz.at hz hx
    have hi : i < xs.length := (List.getElem?_eq_some_iff.mp hx).1
    refine ⟨rfl, yes_if ?_⟩
    refine ⟨_, rfl, _, rfl, pn, l, b, us, q, _, rfl, P', by omega, B' _ _ hb nb, nb, pq.keep fun t zs z => B' _ _ z (ne_pen P z fun _ z => nomatch z), by omega, gq, fun g H2 vs P2 B2 f2 ng g2 vv => ?_⟩
    refine fun x dx h1 h2 h3 => row_to h1 h2 h3 (vals_src (.inl (SqL.of g2)) vv (by omega)) (asc_up aq) (by omega) fun H3 ys s3 ra its => ⟨rfl, ?_⟩
    have gD3 := s3 _ _ (B2 _ _ gD nD.1)
    have P3 := P2.same s3
    have nl : NL H' (upd H3 D (.lst (rs ++ [.ref x]))) := fun d u e n => nl_upd gD3 d u (s3 _ _ (nl_pen P' B2 d u e n)) n
    have ha2 := B2 _ _ (B' _ _ ha na) na
    have tk : qss.take (i + 1) = qss.take i ++ [q] := by rw [List.take_add_one, hq]; rfl
    refine ⟨rs, gD3, by rw [sizeLine_eq]; omega, (P3.upd nD.1 nD.2).mono (by omega), (fun d u e n => by rw [upd_ne (ne_of_none e fD)]; exact s3 _ _ (B2 _ _ (B' _ _ e n) n)), rs ++ [.ref x], upd_same, by rw [List.length_append, lx]; rfl, ?_⟩
    rw [tk]
    exact Rws.app (nl.rws hr) (.cons ⟨x, ys, rfl, (ne_of_none ha2 h1).symm, (nl_upd gD3).row ra, (nl_upd gD3).its its, aq, lq⟩ .nil)
  · rintro H2 ⟨P2, B2, rs, gD, lx, hr⟩
    have lq : xs.length = qss.length := Paired.length hz
    rw [List.take_of_length_le (by omega)] at hr
    exact k D H2 rs (P2.mono (by omega)) B2 fD nD.1 gD hr
theorem Fin.uniq {ps : List (Int × Str)} {q1 q2 : List (List (Int × Str))} {b : Bool} {us vs : List (Int × Str)} (h : Fin ps q1 q2 b us) (g : Fin ps q1 q2 b vs) : us = vs := by
  obtain ⟨m, a1, a2, a3⟩ := h
  obtain ⟨m', b1, b2, b3⟩ := g
  rw [← a1.uniq b1] at b2 b3
  cases b with
  | true => rw [a2 rfl, b2 rfl]
  | false => exact (a3 rfl).uniq (b3 rfl)
theorem Pz.same {N : Addr → Prop} {H H' : Hp} {ls : List V} {qss : List (List (Int × Str))} (h : Pz N H ls qss) (e : Same H H') : Pz N H' ls qss := Pz.keep (fun b us n z => ⟨n, e _ _ z⟩) (fun b xs z => e _ _ z) h
theorem Pz.pen {H H' : Hp} {pn l : Addr} {c : Nat} {ls : List V} {qss : List (List (Int × Str))} (h : Pz (fun b => b ≠ pn) H ls qss) (P : PenL H pn l c) (e : But pn H H') : Pz (fun b => b ≠ pn) H' ls qss := Pz.keep (fun b us n z => ⟨n, e _ _ z n⟩) (fun b xs z => e _ _ z (ne_pen P z fun _ z => nomatch z)) h
theorem Pz.but {K : Fg} {N : Addr → Prop} {H H' : Hp} {a : Addr} {ys ls : List V} {qss : List (List (Int × Str))} (h : Pz N H ls qss) (ra : RowAt K H a ys) (e : ButN a H H') : Pz N H' ls qss := Pz.keep (fun b us n z => ⟨n, e _ _ z (lst_ne ra z) fun _ z => nomatch z⟩) (fun b xs z => e _ _ z (fun y => by obtain ⟨_, _, g1, _⟩ := ra; rw [y, g1] at z; cases z) fun _ z => nomatch z) h
/-- [(b, n)] -/
def doneD (b : Bool) (n : Int) : PyData := .list [.tuple [.bool b, .int n]]
theorem shaped_done (b : Bool) (n : Int) : SeqAt.shaped (doneD b n) = true := by
  simp [doneD, SeqAt.shaped, PyData.canLay0, PyData.canLayAll0, PyData.depth, PyData.depthAll]
theorem eqv_done (b : Bool) (n : Int) : PyData.eqv (doneD b n) (doneD b n) = true := by
  simp [doneD, PyData.eqv, PyData.eqvAll]
theorem dp_done {K : Fg} {H : Hp} {p q : Addr} {b : Bool} {n : Int} (h : H p = some (.lst [.ref q])) (g : H q = some (.tup [.bl b, .int n])) : Dp K H (.ref p) (doneD b n) := .lst (SqL.of h) (.cons (.tup (SqT.of g) (.cons (.bl _) (.cons (.int _) .nil))) .nil)
end K09
namespace K09
open PySem PySem.Spec PyProof.Rows L2 He Tw
abbrev s_tr : Stmt := topS 48
abbrev N_tr : List Str := ["_law_pen_here", "_law_row", "_law_pairs_here", "_law_some", "_law_k", "_law_inner", "_law_bads", "_law_outer_rows", "_law_one", "_law_inner_rows", "_law_later", "_law_own", "_law_heard_here"]
theorem sc_tr : FnScope N_tr ["_law_pen_here", "_law_row", "_law_pairs_here"] (defScope s_tr) := ⟨rfl, rfl, rfl, by decide +kernel, rfl, by decide +kernel, by decide +kernel⟩
def spTr (K : Fg) : Sp := fun vs H Q _ => ∃ (pn l a g : Addr) (c : Nat) (ps : List (Int × Str)), vs = [.ref pn, .ref a, .ref g] ∧ Sx K H pn l c a g ps ∧ c ≤ 400000 ∧ Asc ps ∧ (∀ q ∈ ps, Gd q) ∧ ps.length ≤ 51 ∧
  ∀ (g' : Addr) (H' : Hp) (us : List (Int × Str)), Sx K H' pn l (c + 2000) a g' us → Asc us → (∀ q ∈ us, Gd q) → us.length ≤ ps.length + 12 → Q (.ref g') H'
section
variable {P : Program} {w : World} {K : Fg} {mg : Str → Option Value} {base : Heap} {fd : Nat → FuncData}
theorem G_tr (D : DefsK K fd) (T : Txt K mg) (tb : TBs K mg base) : FnOk P w K mg base CX0 32 (ga K "_law_try_right") (fd 40) ["_law_pen_here", "_law_row", "_law_pairs_here"] (spTr K) := by
  have zlen : mg "len" = none := T.bl (by decide +kernel)
  have zr : mg "range" = none := T.bl (by decide +kernel)
  have gR : mg "Row" = some (.ref (ga K "Row")) := T.cl (by decide +kernel)
  obtain ⟨d2, I⟩ := itm (P := P) (w := w) (base := base) (mg := mg) D T
  have gD := T.fn (x := "_law_draw") (by decide +kernel)
  have FD : FnP K "_law_draw" "_law_draw" s_draw (ga K "_law_draw") (fd 24) := D 24 _ rfl
  have G_draw : FnOk P w K mg base CX0 1 _ (fd 24) ["_law_pen_here", "_law_many"] spDrawL := ok_draw FD T
  have b_draw : Binds K (fd 24) ["_law_pen_here", "_law_many"] [] := FD.bindsN fun _ _ _ _ _ _ us hl => match us, hl with | [_, _], _ => rfl
  have gP := T.fn (x := "_law_pick") (by decide +kernel)
  have FP : FnP K "_law_pick" "_law_pick" s_pick (ga K "_law_pick") (fd 25) := D 25 _ rfl
  have gPr := T.fn (x := "_law_pairs") (by decide +kernel)
  have FPr : FnP K "_law_pairs" "_law_pairs" s_pairs (ga K "_law_pairs") (fd 26) := D 26 _ rfl
  have GPr : FnOk P w K mg base CX0 3 _ (fd 26) ["_law_pen_here", "_law_most"] spPairs := ok_pairs FPr FD gD FP gP T
  have bPr : Binds K (fd 26) ["_law_pen_here", "_law_most"] [] := FPr.bindsN fun _ _ _ _ _ _ us hl => match us, hl with | [_, _], _ => rfl
  have gV := T.fn (x := "_law_values") (by decide +kernel)
  have FV : FnP K "_law_values" "_law_values" s_values (ga K "_law_values") (fd 27) := D 27 _ rfl
  have GV : FnOk P w K mg base CX0 5 _ (fd 27) ["_law_pen_here", "_law_pairs_here"] (spValues K) := ok_values FV FD gD I T
  have bV : Binds K (fd 27) ["_law_pen_here", "_law_pairs_here"] [] := FV.bindsN fun _ _ _ _ _ _ us hl => match us, hl with | [_, _], _ => rfl
  have Gr : FnOk P w K mg base (L2.CX P w) 6 (ma K (ga K "Row") "__init__") (fd 6) ["self", "items"] (spRow K) := G_row D T
  have gLr := T.fn (x := "_law_lost_right") (by decide +kernel)
  have FLr : FnP K "_law_lost_right" "_law_lost_right" s_lr (ga K "_law_lost_right") (fd 36) := D 36 _ rfl
  have GLr : FnOk P w K mg base CX0 20 _ (fd 36) ["_law_row", "_law_some", "_law_pairs_here"] (spLr K) := G_lr D T tb
  have bLr : Binds K (fd 36) ["_law_row", "_law_some", "_law_pairs_here"] [] := FLr.bindsN fun _ _ _ _ _ _ us hl => match us, hl with | [_, _, _], _ => rfl
  have gAd := T.fn (x := "_law_added") (by decide +kernel)
  have FAd : FnP K "_law_added" "_law_added" s_ad (ga K "_law_added") (fd 39) := D 39 _ rfl
  have GAd : FnOk P w K mg base CX0 1 _ (fd 39) ["_law_pairs_here", "_law_some"] spAd := ok_ad D T
  have bAd : Binds K (fd 39) ["_law_pairs_here", "_law_some"] [] := FAd.bindsN fun _ _ _ _ _ _ us hl => match us, hl with | [_, _], _ => rfl
  have gO := T.fn (x := "_law_outer") (by decide +kernel)
  have FO : FnP K "_law_outer" "_law_outer" s_ou (ga K "_law_outer") (fd 38) := D 38 _ rfl
  have GO : ∀ base' : Heap, Sub base base' → FnOk P w K mg base' (L2.CX P w) 22 _ (fd 38) ["_law_row", "_law_some", "_law_inner", "_law_bads"] (spOu K) := fun base' s => G_ou D T (tb.up s)
  have bO : Binds K (fd 38) ["_law_row", "_law_some", "_law_inner", "_law_bads"] [] := FO.bindsN fun _ _ _ _ _ _ us hl => match us, hl with | [_, _, _, _], _ => rfl
  have gT := T.fn (x := "_law_told") (by decide +kernel)
  have FT : FnP K "_law_told" "_law_told" s_told (ga K "_law_told") (fd 28) := D 28 _ rfl
  have GT : FnOk P w K mg base CX0 1 _ (fd 28) ["_law_listed"] (spTold K) := ok_told FT T
  have bT : Binds K (fd 28) ["_law_listed"] [] := FT.bindsN fun _ _ _ _ _ _ us hl => match us, hl with | [_], _ => rfl
  have FLi : FnP K "listed" "Row.listed" s_lst (ma K (ga K "Row") "listed") (fd 8) := D 8 _ rfl
  have GLi : FnOk P w K mg base CX0 1 _ (fd 8) ["self"] (spListed K) := ok_lst FLi T
  have bLi : Binds K (fd 8) ["self"] [] := FLi.bindsN fun _ _ _ _ _ _ us hl => match us, hl with | [_], _ => rfl
  have mL := T.mtR (m := "listed") (by decide +kernel)
  have FA : FnP K "attempt" "Row.attempt" s_at (ma K (ga K "Row") "attempt") (fd 48) := D 48 _ rfl
  have bA : Binds K (fd 48) ["self", "deed"] [] := FA.bindsN fun _ _ _ _ _ _ us hl => match us, hl with | [_, _], _ => rfl
  have RA : ∀ base' : Heap, Sub base base' → FnR P w K mg base' (L2.CX P w) 25 _ (spAt 24 P w K mg base') := fun base' s => (FnOk.raw (G_at (by decide) D T) bA .nil).imp fun vs H Q E h => by rw [List.append_nil]; exact h
  have mA := T.mtR2 (m := "attempt") (by decide +kernel)
  have gH := T.fn (x := "_law_heard") (by decide +kernel)
  have FH : FnP K "_law_heard" "_law_heard" s_heard (ga K "_law_heard") (fd 29) := D 29 _ rfl
  have bH : Binds K (fd 29) ["_law_ask"] [] := FH.bindsN fun _ _ _ _ _ _ us hl => match us, hl with | [_], _ => rfl
  have RH : ∀ base' : Heap, Sub base base' → FnR P w K mg base' CX0 28 _ (spHF 27 P w K mg base') := fun base' s => (FnOk.raw (G_heard FH T) bH .nil).imp fun vs H Q E h => by rw [List.append_nil]; exact h
  have TB := tb (fun K => ga K "_law_try_right") (by simp [tabs])
  have F : FnP K "_law_try_right" "_law_try_right" s_tr (ga K "_law_try_right") (fd 40) := D 40 _ rfl
  obtain ⟨oc, od, dV, kV, doc, pm, an, cdv, ct, osl, e0, lk, hcd, _, _⟩ := F.ex
  rw [e0] at lk ⊢
  obtain ⟨cc, rfl⟩ := codeIn_ref hcd
  have ec : Tw.codeAt K (ga K "_law_try_right") = cc := by
    unfold Tw.codeAt
    rw [lk]
  rw [ec] at TB
  have hmT : (tabAt K (ga K "_law_try_right"), nm "_law_try_right") ∈ Tb K := by simp [Tb]
  refine fn_of lk hcd sc_tr (fun vs H Q E h => ?_) (fun A outer s H vs Q E hr h => ?_)
  · obtain ⟨pn, l, a, g, c, ps, rfl, _⟩ := h
    rfl
  · obtain ⟨pn, l, a, g, c, ps, rfl, S0, hc, asc, gd, few, k⟩ := h
    refine ⟨_, PSs.nox (pss_cons (ps_setLc (i := 3) (own := [("_law_k", 4)]) (g := gName 4) (tt := tYes) (by rfl) sc_tr.nd rfl rfl (sw_true rfl rfl rfl (by decide +kernel)) (pi_range1 rfl zr (pa_cons (pe_call G_draw (hr.mono (by decide)) rfl gD FD.kp b_draw .nil pass0 (pa_cons (pv 0) (pa_cons pe_int pa_nil))) pa_nil)) (blkOk_by (own := [("_law_k", 4)]) (N := N_tr) (sc := defScope s_tr) (by decide +kernel)) (fun _ _ _ _ _ => (pg_name (i := 4) sc_tr.nd rfl (Or.inl rfl))) (fun _ _ _ _ _ => pts_nil) (fun _ _ _ _ _ => (pe_call (E := E0) GPr (hr.mono (by decide)) rfl gPr FPr.kp bPr .nil pass0 (pa_cons (pv 0) (pa_cons pe_int pa_nil)))))
    (pss_cons (ps_setLc (i := 5) (own := [("_law_k", 4)]) (g := gName 4) (tt := tYes) (by rfl) sc_tr.nd rfl rfl (sw_true rfl rfl rfl (by decide +kernel)) (pi_range1 rfl zr (pa_cons (pe_call G_draw (hr.mono (by decide)) rfl gD FD.kp b_draw .nil pass0 (pa_cons (pv 0) (pa_cons pe_int pa_nil))) pa_nil)) (blkOk_by (own := [("_law_k", 4)]) (N := N_tr) (sc := defScope s_tr) (by decide +kernel)) (fun _ _ _ _ _ => (pg_name (i := 4) sc_tr.nd rfl (Or.inl rfl))) (fun _ _ _ _ _ => pts_nil) (fun _ _ _ _ _ => (pe_call (E := E0) GPr (hr.mono (by decide)) rfl gPr FPr.kp bPr .nil pass0 (pa_cons (pv 0) (pa_cons pe_int pa_nil)))))
    (pss_cons (ps_set (i := 6) sc_tr.nd rfl (Or.inr rfl) (pe_lstN (pa_cons (pe_cmpR op_eq (pe_call G_draw (hr.mono (by decide)) rfl gD FD.kp b_draw .nil pass0 (pa_cons (pv 0) (pa_cons pe_int pa_nil))) pe_int (nomark _)) (pa_cons (pe_cmpR op_eq (pe_call G_draw (hr.mono (by decide)) rfl gD FD.kp b_draw .nil pass0 (pa_cons (pv 0) (pa_cons pe_int pa_nil))) pe_int (nomark _)) pa_nil))))
    (pss_cons (ps_set (i := 7) sc_tr.nd rfl (Or.inr rfl) (pe_lc (own := [("_law_one", 8)]) (g := gName 8) (tt := tYes) (by rfl) sc_tr.nd (pi_list (pv 3)) (blkOk_by (own := [("_law_one", 8)]) (N := N_tr) (sc := defScope s_tr) (by decide +kernel)) (fun _ _ _ _ _ => (pg_name (i := 8) sc_tr.nd rfl (Or.inl rfl))) (fun _ _ _ _ _ => pts_nil) (fun _ _ _ _ _ => (pe_make (E := E0) T.mkR Gr (hr.mono (by decide)) rfl gR (bRow D) .nil passL (pa_cons (pe_call (E := E0) GV (hr.mono (by decide)) rfl gV FV.kp bV .nil pass0 (pa_cons (pv 0) (pa_cons (pv 8) pa_nil))) pa_nil)))))
    (pss_cons (ps_set (i := 9) sc_tr.nd rfl (Or.inr rfl) (pe_lc (own := [("_law_one", 8)]) (g := gName 8) (tt := tYes) (by rfl) sc_tr.nd (pi_list (pv 5)) (blkOk_by (own := [("_law_one", 8)]) (N := N_tr) (sc := defScope s_tr) (by decide +kernel)) (fun _ _ _ _ _ => (pg_name (i := 8) sc_tr.nd rfl (Or.inl rfl))) (fun _ _ _ _ _ => pts_nil) (fun _ _ _ _ _ => (pe_make (E := E0) T.mkR Gr (hr.mono (by decide)) rfl gR (bRow D) .nil passL (pa_cons (pe_call (E := E0) GV (hr.mono (by decide)) rfl gV FV.kp bV .nil pass0 (pa_cons (pv 0) (pa_cons (pv 8) pa_nil))) pa_nil)))))
    (pss_cons (ps_if (pt_not (pt_val (pe_call (E := E0) GLr (hr.mono (by decide)) rfl gLr FLr.kp bLr .nil pass0 (pa_cons (pv 1) (pa_cons (pe_op op_catN (pv 9) (pv 7)) (pa_cons (pv 2) pa_nil)))))) (pss_one (ps_ret pe_non)) pss_nil)
    (pss_cons (ps_set (i := 10) sc_tr.nd rfl (Or.inl rfl) (pe_call (E := E0) GAd (hr.mono (by decide)) rfl gAd FAd.kp bAd .nil pass0 (pa_cons (pv 2) (pa_cons (pv 3) pa_nil))))
    (pss_mid (ps_if (pt_not (pt_val (pe_ix ix_list (pv 6) pe_int (fun _ _ => rfl)))) (pss_one (ps_set (i := 10) sc_tr.nd rfl (Or.inl rfl) (pe_call (E := E0) GAd (hr.mono (by decide)) rfl gAd FAd.kp bAd .nil pass0 (pa_cons (pv 10) (pa_cons (pv 5) pa_nil))))) pss_nil)
    (pss_cons (ps_set (i := 11) sc_tr.nd rfl (Or.inr rfl) (pe_call G_draw (hr.mono (by decide)) rfl gD FD.kp b_draw .nil pass0 (pa_cons (pv 0) (pa_cons pe_int pa_nil))))
    (pss_cons (ps_set (i := 12) sc_tr.nd rfl (Or.inl rfl)
        (pe_lamG (E := fun _ => E0) (CX := CX0) (host := host) (L := Tb K) (pre := fun _ => True) (k := 26) (xs := []) (cs := ["_law_row", "_law_own", "_law_outer_rows", "_law_inner_rows", "_law_bads"]) (caps := [1, 11, 7, 9, 6]) (tb := fun c' P' E => tLamM P w K mg host ((P', nm (nm "_law_try_right")) :: Tb K) (fun H => H c' = some (CodeN c' (nm "_law_try_right") P')) (nm (nm "_law_try_right")) 23 1 (fun _ _ E => tCallS (spOu K) (fun _ => E) (tCons (tOp (rIxL K) (tLstN (tCons (tVar 0) (tCons (tVar 1) tNil))) (tVar 2)) (tCons (tVar 3) (tCons (tVar 4) (tCons (tVar 5) tNil))))) [0, 1, 2, 3, 4] (ga K "Row") "attempt" (spAt 24 P w K mg) (fun _ => E) (tVar 0)) (Pr := P) (wo := w) (K := K) (mg := mg) (qn := nm "_law_try_right")
          (by exact ⟨made_def TB rfl hmT, bmIn TB, cellsOut_def (fun _ => rfl), lamQ_by (sc := defScope s_tr) (by decide +kernel), (caps_by (N := N_tr) (by decide +kernel)), rfl, by decide +kernel, rfl, (fun us _ _ _ _ _ hu => match us, hu with | [], _ => rfl),
            (fun base A outer s1 H1 E f c' P' hsub hr2 hout => pe_lamM (E := fun _ => E) (xs := ["_law_held"]) (cs := ["_law_row", "_law_own", "_law_outer_rows", "_law_inner_rows", "_law_bads"]) (caps := [0, 1, 2, 3, 4]) (pe_var (x := "_law_row") (i := 0) rfl (.inr (.inr rfl))) T.clsR mA
              (by exact ⟨made_lam rfl List.mem_cons_self, (bmIn TB).up hsub, hout, lamQ_by (by rfl), (caps_by (N := ["_law_row", "_law_own", "_law_outer_rows", "_law_inner_rows", "_law_bads"]) (by decide +kernel)), rfl, by decide +kernel, rfl, (fun us _ _ _ _ _ hu => match us, hu with | [_], _ => rfl),
                (fun base3 A3 outer3 s3 H3 E3 f3 c3 P3 hsub3 hr3 hout3 => pe_callS (E := fun _ => E3) (GO base3 (hsub.trans hsub3)) (hr3.mono (by decide)) rfl gO FO.kp bO (fun σ => fun pins H s e s' I c => (passes_call (takes_of rfl rfl rfl rfl) (fun _ _ _ _ h => h)) pins σ H s e s' I c) (pa_cons (pe_ix (ixl K) (pe_lstN (pa_cons (pe_var (x := "_law_held") (i := 0) rfl (.inl rfl)) (pa_cons (pe_var (x := "_law_row") (i := 1) rfl (.inr (.inr rfl))) pa_nil))) (pe_var (x := "_law_own") (i := 2) rfl (.inr (.inr rfl))) (fun _ _ => rfl)) (pa_cons (pe_var (x := "_law_outer_rows") (i := 3) rfl (.inr (.inr rfl))) (pa_cons (pe_var (x := "_law_inner_rows") (i := 4) rfl (.inr (.inr rfl))) (pa_cons (pe_var (x := "_law_bads") (i := 5) rfl (.inr (.inr rfl))) pa_nil)))))⟩)
              (fun base' s' => RA base' (hsub.trans s')) (hr2.mono (by decide)) (fun σ pins H s e s' I c => (passes_call (takes_of rfl rfl rfl rfl) (fun _ _ _ _ h => h)) pins σ H s e s' I c))⟩)
          RH (hr.mono (by decide)) rfl gH FH.kp (fun σ pins H s e s' I c => c.elim)))
    (pss_cons (ps_if (pt_val (pe_ix ix_list (pv 6) pe_int (fun _ _ => rfl))) (pss_one (ps_ret (pe_ifExp (PW.pt (pw_and (pt_cmpR (op_eqD hr.units) (pv 12) (pe_tupN (pa_cons pe_str (pa_cons (pe_callB call_len (by rfl) zlen (by decide +kernel) (pa_cons (pv 10) pa_nil)) pa_nil))) (nomark _)) (pw_and1 (pt_cmpR (op_eqD hr.units) (pe_call (E := E0) GT (hr.mono (by decide)) rfl gT FT.kp bT .nil pass0 (pa_cons (pe_meth0 (E := E0) (pv 1) T.clsR mL GLi (hr.mono (by decide)) bLi .nil pass0) pa_nil)) (pv 2) (nomark _))))) (pv 2) pe_non))) pss_nil)
    (pss_one (ps_ret (pe_ifExp (PW.pt (pw_and (pt_cmpR (op_eqD hr.units) (pv 12) (pe_lstN (pa_cons (pe_tupN (pa_cons (pe_ix ix_list (pv 6) pe_int (fun _ _ => rfl)) (pa_cons (pe_callB call_len (by rfl) zlen (by decide +kernel) (pa_cons (pv 10) pa_nil)) pa_nil))) pa_nil)) (nomark _)) (pw_and1 (pt_cmpR (op_eqD hr.units) (pe_call (E := E0) GT (hr.mono (by decide)) rfl gT FT.kp bT .nil pass0 (pa_cons (pe_meth0 (E := E0) (pv 1) T.clsR mL GLi (hr.mono (by decide)) bLi .nil pass0) pa_nil)) (pv 10) (nomark _))))) (pv 10) pe_non)))))))))))))), ?_⟩
    refine seq_asg (lc_prs S0.P (by omega) fun D1 H1 x1 q1 P1 B1 f1 n1 g1 z1 l1 => ?_)
    have S1 := S0.pen B1 P1
    refine seq_asg (lc_prs P1 (by omega) fun D2 H2 x2 q2 P2 B2 f2 n2 g2 z2 l2 => ?_)
    have S2 := S1.pen B2 P2
    have lx1 : x1.length = q1.length := Paired.length z1
    have lx2 : x2.length = q2.length := Paired.length z2
    refine ⟨_, rfl, pn, l, 2, _, rfl, by decide, by decide, P2, by omega, fun r3 H3 r30 r31 P3 B3 => ?_⟩
    refine ⟨rfl, _, rfl, pn, l, 3, _, rfl, by decide, by decide, P3, by omega, fun r4 H4 r40 r41 P4 B4 => ?_⟩
    refine ⟨rfl, sz1000 (by show 2 ≤ 1000; decide), fun lb H5 f5 m5 s5 g5 => ?_⟩
    generalize hb0 : decide (V.int r3 = V.int 0) = b0 at g5
    generalize hb1 : decide (V.int r4 = V.int 0) = b1 at g5
    have S4 := (S2.pen B3 P3).pen B4 P4
    have S5 := S4.same s5
    have nlb : lb ≠ pn := (P4.new f5).1
    have B25 : But pn H2 H5 := (B3.trans B4).trans (But.of s5)
    have g1_5 := B25 _ _ (B2 _ _ g1 n1) n1
    have g2_5 := B25 _ _ g2 n2
    have z1_5 := (z1.pen P1 B2).pen P2 B25
    have z2_5 := z2.pen P2 B25
    obtain ⟨ys5, ⟨da5, t, ha5, ht5⟩, ia5⟩ := S5.row
    have na : a ≠ pn := pen_kind S5.P ha5 fun _ z => nomatch z
    refine seq_asg (lc_rws (n := 3) rfl S5.P (by omega) g1_5 n1 z1_5 (by omega) ha5 na fun D3 H6 r1 P6 B6 f6 n6 g6 w6 => ?_)
    have S6 := S5.pen B6 P6
    refine seq_asg (lc_rws (n := 5) rfl P6 (by omega) (B6 _ _ g2_5 n2) n2 (z2_5.pen S5.P B6) (by omega) (B6 _ _ ha5 na) na fun D4 H7 r2 P7 B7 f7 n7 g7 w7 => ?_)
    have S7 := S6.pen B7 P7
    have B57 := B6.trans B7
    have g6_7 := B7 _ _ g6 n6
    have w6_7 := (nl_pen P6 B7).rws w6
    have g1_7 := B57 _ _ g1_5 n1
    have g2_7 := B57 _ _ g2_5 n2
    have z1_7 := z1_5.pen S5.P B57
    have z2_7 := z2_5.pen S5.P B57
    have glb7 := B57 _ _ g5 nlb
    have ha7 := B57 _ _ ha5 na
    have ht7 := nl_pen S5.P B57 _ _ ht5 fun _ z => nomatch z
    have ia7 := (nl_pen S5.P B57).its ia5
    obtain ⟨ts7, hg7, pr7⟩ := S7.lst
    have lr1 : r1.length = q1.length := Paired.length w6
    have lr2 : r2.length = q2.length := Paired.length w7
    -- what is lost is given back
    refine ⟨_, rfl, _, rfl, _, rfl, D4, D3, r2, r1, rfl, rfl, g7, g6_7, by rw [sizeLine_eq]; omega, fun q8 H8 f8 m8 s8 g8 => ⟨_, rfl, a, q8, g, da5, t, ys5, r2 ++ r1, ts7, ps, q2 ++ q1, rfl, s8 _ _ ha7, s8 _ _ ht7, ia7.same s8, asc, g8, Rws.app (w7.same s8) (w6_7.same s8), by rw [List.length_append]; omega, s8 _ _ hg7, prs_same s8 pr7, gd, Tbn.ext S7.tk s8, fun H9 bn9 T9 ha9 => ?_⟩⟩
    refine ⟨true, rfl, iteF ?_⟩
    obtain ⟨da9, ha9⟩ := ha9
    have ra8 : RowAt K H8 a ys5 := ⟨da5, t, s8 _ _ ha7, s8 _ _ ht7⟩
    have ht9 := bn9 _ _ (s8 _ _ ht7) (fun z => by have := s8 _ _ ht7; rw [z, s8 _ _ ha7] at this; cases this) fun _ z => nomatch z
    have ra9 : RowAt K H9 a ys5 := ⟨da9, t, ha9, ht9⟩
    have ls9 : ∀ {b : Addr} {xs : List V}, H7 b = some (.lst xs) → H9 b = some (.lst xs) := fun {b xs} h => bn9 _ _ (s8 _ _ h) (lst_ne ra8 (s8 _ _ h)) fun _ z => nomatch z
    have ia9 := its_butA ra8 bn9 (ia7.same s8)
    have pr9 := prs_butA ra8 bn9 (prs_same s8 pr7)
    have z1_9 := (z1_7.same s8).but ra8 bn9
    have z2_9 := (z2_7.same s8).but ra8 bn9
    have w6_9 := rws_butA ra8 bn9 (w6_7.same s8)
    have w7_9 := rws_butA ra8 bn9 (w7.same s8)
    have S9 : Sx K H9 pn l (c + 1216) a g ps := ((S7.same s8).but bn9 T9 ra9 ia9 (ls9 hg7) pr9 S7.ne).mono (by omega)
    -- what is added
    refine ⟨_, rfl, _, rfl, g, D1, ts7, x1, ps, q1, rfl, ls9 hg7, pr9, asc, ls9 g1_7, z1_9.pss, by omega, fun m h10 H10 zs ad1 s10 g10 pr10 => ?_⟩
    have F1 := ad1.facts asc gd z1.good.1 z1.good.2
    have F1l : m.length + 3 * q2.length ≤ 200 := by have := F1.2.2; omega
    refine ⟨fun σ' H' => ∃ (g' : Addr) (us : List (Int × Str)) (zs : List V), σ' = [some (.ref pn), some (.ref a), some (.ref g), some (.ref D1), none, some (.ref D2), some (.ref lb), some (.ref D3), none, some (.ref D4), some (.ref g'), none, none] ∧ Same H9 H' ∧ H' g' = some (.lst zs) ∧ Prs H' zs us ∧ Fin ps q1 q2 b0 us, ?_, ?_⟩
    · refine ⟨_, rfl, lb, _, 0, .bl b0, rfl, rfl, SqL.of (s10 _ _ (ls9 glb7)), rfl, b0, rfl, ?_⟩
      cases b0 with
      | true => exact iteF ⟨h10, m, zs, rfl, s10, g10, pr10, m, ad1, fun _ => rfl, fun z => nomatch z⟩
      | false =>
        refine iteT ?_
        refine ⟨_, rfl, _, rfl, h10, D2, zs, x2, m, q2, rfl, g10, pr10, F1.1, s10 _ _ (ls9 g2_7), (z2_9.same s10).pss, F1l, fun us h11 H11 ws ad2 s11 g11 pr11 => ?_⟩
        exact ⟨h11, us, ws, rfl, s10.trans s11, g11, pr11, m, ad1, (fun z => nomatch z), fun _ => ad2⟩
    rintro σ' H11 ⟨g', us, ws, rfl, s11, g11, pr11, fin⟩
    have F2 : Asc us ∧ (∀ q ∈ us, Gd q) ∧ us.length ≤ ps.length + 12 := by
      obtain ⟨m', ad', e1, e2⟩ := fin
      have F1 := ad'.facts asc gd z1.good.1 z1.good.2
      cases b0 with
      | true =>
        rw [e1 rfl]
        exact ⟨F1.1, F1.2.1, by omega⟩
      | false =>
        have F2 := (e2 rfl).facts F1.1 F1.2.1 z2.good.1 z2.good.2
        exact ⟨F2.1, F2.2.1, by omega⟩
    have S11 := S9.same s11
    have ha11 := s11 _ _ ha9
    have ht11 := s11 _ _ ht9
    have ia11 := ia9.same s11
    refine ⟨_, rfl, pn, l, 2, _, rfl, by decide, by decide, S11.P, by omega, fun ow H12 ow0 ow1 P12 B12 => ?_⟩
    have S12 := S11.pen B12 P12
    have nl12 := nl_pen S11.P B12
    have ls12 : ∀ {b : Addr} {xs : List V}, b ≠ pn → H7 b = some (.lst xs) → H12 b = some (.lst xs) := fun {b xs} n h => B12 _ _ (s11 _ _ (ls9 h)) n
    have ng' : g' ≠ pn := fun z => by
      obtain ⟨ns, i, gg, hp, _⟩ := id S11.P
      rw [z, hp] at g11
      cases g11
      cases pr11 with
      | cons h t =>
        cases t with
        | cons h2 _ =>
          obtain ⟨t, e, _⟩ := h2
          cases e
    have g12 := B12 _ _ g11 ng'
    have pr12 : Prs H12 ws us := pr11.keep fun b xs z => nl12 _ _ z fun _ z => nomatch z
    have ha12 := nl12 _ _ ha11 fun _ z => nomatch z
    have ht12 := nl12 _ _ ht11 fun _ z => nomatch z
    have ia12 := nl12.its ia11
    have w6_12 := nl12.rws (w6_9.same s11)
    have w7_12 := nl12.rws (w7_9.same s11)
    have lo12 := ls12 n6 g6_7
    have li12 := ls12 n7 g7
    have lb12 := ls12 nlb glb7
    refine ⟨S12.tk, trivial, fun f8 c8 P8 H13 base8 e8 T8 T8' hc8 hfa8 FL8 => ?_⟩
    refine ⟨f8, _, rfl, hfa8, FL8, fun E' Q' herr hok => ?_⟩
    have ha13 := e8 _ _ ha12 fun _ z => nomatch z
    refine ⟨rfl, hc8, _, rfl, a, da9, _, rfl, ha13, rfl, T8' _ rfl, hc8, fun f9 c9 P9 H14 base9 e9 T9 _ hc9 hfa9 FL9 => ?_⟩
    have e14 : LamX.ExtN H12 H14 := e8.trans e9
    have ha14 := e14 _ _ ha12 fun _ z => nomatch z
    have ht14 := e14 _ _ ht12 fun _ z => nomatch z
    have ra14 : RowAt K H14 a ys5 := ⟨da9, t, ha14, ht14⟩
    have T9' : Tk K H14 := T9.less fun p hp => List.mem_cons_of_mem _ hp
    refine ⟨a, f9, t, _, fun v H16 => ∃ (q : Addr) (ys' : List V), v = .ref q ∧ b1 = false ∧ ButN a H14 H16 ∧ Tk K H16 ∧ RowAt K H16 a ys' ∧ Its K H16 ys' us ∧ H16 q = some (.tup [.bl b0, .int (us.length : Nat)]), fun cls d H16 => ∃ dd : Addr, cls = .ref (ga K "BadPlace") ∧ d = some dd ∧ b1 = true ∧ ButN a H14 H16 ∧ Tk K H16 ∧ (∃ s1, StAt K H16 a s1) ∧ H16 dd = some (.xd [("at", .int (us.length : Nat))]), rfl, ⟨da9, ha14⟩, hfa9, FL9, fun H15 Q1 E1 s15 don fail => ?_, fun v H16 dn => ?_, fun cls d H16 H17 fl B17 st => ?_⟩
    · refine ⟨rfl, s15 _ _ hc9, _, rfl, _, rfl, sz1000 (by show 2 ≤ 1000; decide), fun q16 H16 f16 m16 s16 g16 => ?_⟩
      have s1516 := s15.trans s16
      refine ⟨_, rfl, q16, _, ow, .ref a, rfl, rfl, SqL.of g16, ?_, _, rfl, _, rfl, _, rfl, ?_⟩
      · have : ow = 0 ∨ ow = 1 := by omega
        rcases this with rfl | rfl <;> rfl
      refine ⟨a, D3, D4, lb, da9, t, b0, b1, ys5, r1, r2, ps, q1, q2, rfl, s1516 _ _ ha14, s1516 _ _ ht14, (its_ext e14 ia12).same s1516, asc, s1516 _ _ (e14 _ _ lo12 fun _ z => nomatch z), (rws_ext e14 w6_12).same s1516, s1516 _ _ (e14 _ _ li12 fun _ z => nomatch z), (rws_ext e14 w7_12).same s1516, s1516 _ _ (e14 _ _ lb12 fun _ z => nomatch z), by omega, Tbn.ext T9' s1516, fun u2 fin2 => ?_⟩
      rw [fin2.uniq fin]
      refine ⟨fun hb q H18 ys' bn T18 ra ia gq => ?_, fun hb dd H18 bn T18 st gd' => ?_⟩
      · have bn14 : ButN a H14 H18 := fun b u h n1 n2 => bn _ _ (s1516 _ _ h) n1 n2
        obtain ⟨dx, tx, h1, h2⟩ := id ra
        exact don _ _ (fun b u h n1 n2 => bn _ _ (s16 _ _ h) n1 n2) ⟨tx, dx, h1⟩ ⟨q, ys', rfl, hb, bn14, T18, ra, ia, gq⟩
      · have bn14 : ButN a H14 H18 := fun b u h n1 n2 => bn _ _ (s1516 _ _ h) n1 n2
        exact fail _ _ _ (fun b u h n1 n2 => bn _ _ (s16 _ _ h) n1 n2) st ⟨.ref (ga K "BadPlace"), rfl, fun z => nomatch z⟩ ⟨dd, rfl, rfl, hb, bn14, T18, st, gd'⟩
    · obtain ⟨q, ys', rfl, rfl, bn, T16, ra, ia, gq⟩ := dn
      refine hok _ H16 fun q17 H17 f17 s17 g17 => ?_
      have g16 := bn _ _ (e14 _ _ g12 fun _ z => nomatch z) (lst_ne ra14 (e14 _ _ g12 fun _ z => nomatch z)) fun _ z => nomatch z
      have pr16 := prs_butA ra14 bn (pr12.keep fun b xs z => e14 _ _ z fun _ z => nomatch z)
      have lb16 := bn _ _ (e14 _ _ lb12 fun _ z => nomatch z) (lst_ne ra14 (e14 _ _ lb12 fun _ z => nomatch z)) fun _ z => nomatch z
      have S17 : Sx K H17 pn l (c + 1217) a g' us := ((S12.ext e14 T9').but bn T16 ra ia g16 pr16 ng').same s17
      have lws : ws.length = us.length := Paired.length pr11
      obtain ⟨ys17, ra17, ia17⟩ := S17.row
      obtain ⟨ts17, hg17, pr17⟩ := S17.lst
      refine ⟨_, rfl, lb, _, 1, .bl false, rfl, rfl, SqL.of (s17 _ _ lb16), rfl, false, rfl, iteF ?_⟩
      refine ⟨_, rfl, _, rfl, lb, _, 0, .bl b0, rfl, rfl, SqL.of (s17 _ _ lb16), rfl, _, rfl, .ref g', us.length, rfl, .inl ⟨ws, SqL.of (s17 _ _ g16), lws.symm⟩, sz1000 (by show 2 ≤ 1000; decide), fun q18 H18 f18 s18 g18 => ⟨sz1000 (by show 1 ≤ 1000; decide), fun q19 H19 f19 m19 s19 g19 => ?_⟩⟩
      have s1719 := s18.trans s19
      refine ⟨doneD b0 (us.length : Nat), doneD b0 (us.length : Nat), dp_done (s1719 _ _ g17) (s1719 _ _ (s17 _ _ gq)), dp_done g19 (s19 _ _ g18), shaped_done _ _, shaped_done _ _, true, by rw [eqv_done], iteT ?_⟩
      refine told_eq (K := K) (i := 1) (j := 10) rfl rfl (ra17.same s1719) (ia17.same s1719) (by omega) (s1719 _ _ hg17) (prs_same s1719 pr17) (fun q hq => (F2.2.1 q hq).2.1) fun H20 s20 => ⟨true, rfl, iteT ?_⟩
      exact ⟨_, rfl, k g' H20 us ((S17.same (s1719.trans s20)).mono (by omega)) F2.1 F2.2.1 F2.2.2⟩
    · obtain ⟨dd, rfl, rfl, rfl, bn, T16, st16, gd16⟩ := fl
      obtain ⟨s1, d1, ha16⟩ := st16
      obtain ⟨d17, ha17⟩ := st
      have ndd : dd ≠ a := fun z => by rw [z, ha16] at gd16; cases gd16
      refine herr _ _ H17 ⟨("BadPlace", 6, "at"), (us.length : Nat), dd, by decide +kernel, rfl, rfl, B17 _ _ gd16 ndd, fun q H18 fq s18 g18 => ?_⟩
      have bn17 : ButN a H14 H17 := bn.trans (ButN.but B17)
      have T17 : Tk K H17 := tbn_but T16 B17 ⟨_, _, _, ha16⟩
      have ra17 : RowAt K H17 a ys5 := ⟨d17, t, ha17, bn17 _ _ ht14 (fun z => by rw [z, ha14] at ht14; cases ht14) fun _ z => nomatch z⟩
      have S14 := S12.ext e14 T9'
      obtain ⟨ts14, hg14, pr14⟩ := S14.lst
      have S17 : Sx K H17 pn l (c + 1217) a g ps := S14.but bn17 T17 ra17 (its_butA ra14 bn17 (its_ext e14 ia12)) (bn17 _ _ hg14 (lst_ne ra14 hg14) fun _ z => nomatch z) (prs_butA ra14 bn17 pr14) S12.ne
      have S18 := S17.same s18
      have lst18 : ∀ {b : Addr} {xs : List V}, H12 b = some (.lst xs) → H18 b = some (.lst xs) := fun {b xs} h => s18 _ _ (bn17 _ _ (e14 _ _ h fun _ z => nomatch z) (lst_ne ra14 (e14 _ _ h fun _ z => nomatch z)) fun _ z => nomatch z)
      have lws : ws.length = us.length := Paired.length pr11
      obtain ⟨ys18, ra18, ia18⟩ := S18.row
      obtain ⟨ts18, hg18, pr18⟩ := S18.lst
      refine ⟨_, rfl, lb, _, 1, .bl true, rfl, rfl, SqL.of (lst18 lb12), rfl, true, rfl, iteT ?_⟩
      refine ⟨_, rfl, _, rfl, .ref g', us.length, rfl, .inl ⟨ws, SqL.of (lst18 g12), lws.symm⟩, sz1000 (by show 2 ≤ 1000; decide), fun q19 H19 f19 s19 g19 => ?_⟩
      refine ⟨placeD (us.length : Nat), placeD (us.length : Nat), dp_place (s19 _ _ g18), dp_place g19, shaped_place _, shaped_place _, true, by rw [eqv_place], iteT ?_⟩
      refine told_eq (K := K) (i := 1) (j := 2) rfl rfl (ra18.same s19) (ia18.same s19) (by omega) (s19 _ _ hg18) (prs_same s19 pr18) (fun q hq => (gd q hq).2.1) fun H20 s20 => ⟨true, rfl, iteT ?_⟩
      exact ⟨_, rfl, k g H20 ps ((S18.same (s19.trans s20)).mono (by omega)) asc gd (by omega)⟩
end
end K09
namespace K09
open PySem PySem.Spec PyProof.Rows L2 He Tw
theorem asc_sort (w : Nat) (ps : List (Int × Str)) : Asc (ps.mergeSort (leP w)) := (List.pairwise_mergeSort (leP_trans w) (leP_total w) ps).imp fun {a b} h => by
  unfold leP at h
  simp only [Bool.or_eq_true, Bool.and_eq_true, decide_eq_true_eq] at h
  rcases h with h | ⟨h, _⟩ <;> omega
abbrev s_law : Stmt := topS 49
abbrev N_law : List Str := ["_law_script", "_law_pen_here", "_law_turn", "_law_pairs_here", "_law_row", "_law_again"]
theorem sc_law : FnScope N_law ["_law_script"] (defScope s_law) := ⟨rfl, rfl, rfl, by decide +kernel, rfl, by decide +kernel, by decide +kernel⟩
def spLaw (K : Fg) : Sp := fun vs H Q _ => ∃ (a : Addr) (ns : List Int), vs = [.ref a] ∧ SqL K H a (ns.map V.int) ∧ ns.length ≤ 63 ∧ Tk K H ∧ ∀ H', Q (.bl true) H'
section
variable {P : Program} {w : World} {K : Fg} {mg : Str → Option Value} {base : Heap} {fd : Nat → FuncData}
theorem G_law (D : DefsK K fd) (T : Txt K mg) (tb : TBs K mg base) : FnG P w K mg base CX0 34 (ga K "law") (fd 41) ["_law_script"] (spLaw K) := by
  have zr : mg "range" = none := T.bl (by decide +kernel)
  have gR : mg "Row" = some (.ref (ga K "Row")) := T.cl (by decide +kernel)
  obtain ⟨d2, I⟩ := itm (P := P) (w := w) (base := base) (mg := mg) D T
  have gPen := T.fn (x := "_law_pen") (by decide +kernel)
  have FPen : FnP K "_law_pen" "_law_pen" s_pen (ga K "_law_pen") (fd 23) := D 23 _ rfl
  have GPen : FnOk P w K mg base CX0 1 _ (fd 23) ["_law_script"] (spPenL K) := ok_pen FPen T
  have bPen : Binds K (fd 23) ["_law_script"] [] := FPen.bindsN fun _ _ _ _ _ _ us hl => match us, hl with | [_], _ => rfl
  have gD := T.fn (x := "_law_draw") (by decide +kernel)
  have FD : FnP K "_law_draw" "_law_draw" s_draw (ga K "_law_draw") (fd 24) := D 24 _ rfl
  have gP := T.fn (x := "_law_pick") (by decide +kernel)
  have FP : FnP K "_law_pick" "_law_pick" s_pick (ga K "_law_pick") (fd 25) := D 25 _ rfl
  have gPr := T.fn (x := "_law_pairs") (by decide +kernel)
  have FPr : FnP K "_law_pairs" "_law_pairs" s_pairs (ga K "_law_pairs") (fd 26) := D 26 _ rfl
  have GPr : FnOk P w K mg base CX0 3 _ (fd 26) ["_law_pen_here", "_law_most"] spPairs := ok_pairs FPr FD gD FP gP T
  have bPr : Binds K (fd 26) ["_law_pen_here", "_law_most"] [] := FPr.bindsN fun _ _ _ _ _ _ us hl => match us, hl with | [_, _], _ => rfl
  have gV := T.fn (x := "_law_values") (by decide +kernel)
  have FV : FnP K "_law_values" "_law_values" s_values (ga K "_law_values") (fd 27) := D 27 _ rfl
  have GV : FnOk P w K mg base CX0 5 _ (fd 27) ["_law_pen_here", "_law_pairs_here"] (spValues K) := ok_values FV FD gD I T
  have bV : Binds K (fd 27) ["_law_pen_here", "_law_pairs_here"] [] := FV.bindsN fun _ _ _ _ _ _ us hl => match us, hl with | [_, _], _ => rfl
  have Gr : FnOk P w K mg base (L2.CX P w) 6 (ma K (ga K "Row") "__init__") (fd 6) ["self", "items"] (spRow K) := G_row D T
  have gS := T.fn (x := "_law_settle_right") (by decide +kernel)
  have FS : FnP K "_law_settle_right" "_law_settle_right" s_sr (ga K "_law_settle_right") (fd 32) := D 32 _ rfl
  have GS : FnOk P w K mg base CX0 14 _ (fd 32) ["_law_pen_here", "_law_row", "_law_pairs_here"] (spSr K) := G_sr D T tb
  have bS : Binds K (fd 32) ["_law_pen_here", "_law_row", "_law_pairs_here"] [] := FS.bindsN fun _ _ _ _ _ _ us hl => match us, hl with | [_, _, _], _ => rfl
  have gL := T.fn (x := "_law_late_right") (by decide +kernel)
  have FL : FnP K "_law_late_right" "_law_late_right" s_lt (ga K "_law_late_right") (fd 33) := D 33 _ rfl
  have GL : FnOk P w K mg base CX0 14 _ (fd 33) ["_law_pen_here", "_law_row", "_law_pairs_here"] (spLt K) := G_lt D T tb
  have bL : Binds K (fd 33) ["_law_pen_here", "_law_row", "_law_pairs_here"] [] := FL.bindsN fun _ _ _ _ _ _ us hl => match us, hl with | [_, _, _], _ => rfl
  have gT := T.fn (x := "_law_try_right") (by decide +kernel)
  have FT : FnP K "_law_try_right" "_law_try_right" s_tr (ga K "_law_try_right") (fd 40) := D 40 _ rfl
  have GT : FnOk P w K mg base CX0 32 _ (fd 40) ["_law_pen_here", "_law_row", "_law_pairs_here"] (spTr K) := G_tr D T tb
  have bT : Binds K (fd 40) ["_law_pen_here", "_law_row", "_law_pairs_here"] [] := FT.bindsN fun _ _ _ _ _ _ us hl => match us, hl with | [_, _, _], _ => rfl
  have F_law : FnP K "law" "law" s_law (ga K "law") (fd 41) := D 41 _ rfl
  refine F_law.okG sc_law (fun vs H Q E h => ?_) (fun cdv A outer s H vs Q E hr hg h => ?_)
  · obtain ⟨a, ns, rfl, _⟩ := h
    rfl
  · obtain ⟨a0, ns, rfl, hS, hn, hT, k⟩ := h
    refine ⟨_, PSs.nox (pss_cons (ps_set (i := 1) sc_law.nd rfl (Or.inl rfl) (pe_call (E := E0) GPen (hr.mono (by decide)) rfl gPen FPen.kp bPen .nil pass0 (pa_cons (pv 0) pa_nil)))
    (pss_cons (ps_for PassesOwn.never rfl (pi_range1 rfl zr (pa_cons pe_int pa_nil)) (pg_name (i := 2) sc_law.nd rfl (Or.inl rfl))
    (pss_cons (ps_set (i := 3) sc_law.nd rfl (Or.inl rfl) (pe_call (E := E0) GPr (hr.mono (by decide)) rfl gPr FPr.kp bPr .nil pass0 (pa_cons (pv 1) (pa_cons pe_int pa_nil))))
    (pss_cons (ps_set (i := 4) sc_law.nd rfl (Or.inl rfl) (pe_make (E := E0) T.mkR Gr (hr.mono (by decide)) rfl gR (bRow D) .nil passL (pa_cons (pe_call (E := E0) GV (hr.mono (by decide)) rfl gV FV.kp bV .nil pass0 (pa_cons (pv 1) (pa_cons (pv 3) pa_nil))) pa_nil)))
    (pss_one (ps_for PassesOwn.never rfl (pi_range1 rfl zr (pa_cons pe_int pa_nil)) (pg_name (i := 5) sc_law.nd rfl (Or.inl rfl))
    (pss_cons (ps_set (i := 3) sc_law.nd rfl (Or.inl rfl) (pe_call (E := E0) GS (hr.mono (by decide)) rfl gS FS.kp bS .nil pass0 (pa_cons (pv 1) (pa_cons (pv 4) (pa_cons (pv 3) pa_nil)))))
    (pss_cons (ps_if (PW.pt (pw_or (pt_cmpR op_isN (pv 3) pe_non (nomark _)) (pw_or1 (pt_not (pt_val (pe_call (E := E0) GL (hr.mono (by decide)) rfl gL FL.kp bL .nil pass0 (pa_cons (pv 1) (pa_cons (pv 4) (pa_cons (pv 3) pa_nil))))))))) (pss_one (ps_ret pe_bl)) pss_nil)
    (pss_cons (ps_set (i := 3) sc_law.nd rfl (Or.inl rfl) (pe_call (E := E0) GT (hr.mono (by decide)) rfl gT FT.kp bT .nil pass0 (pa_cons (pv 1) (pa_cons (pv 4) (pa_cons (pv 3) pa_nil)))))
    (pss_one (ps_if (pt_cmpR op_isN (pv 3) pe_non (nomark _)) (pss_one (ps_ret pe_bl)) pss_nil))))))))))
    (pss_one (ps_ret pe_bl)))), ?_⟩
    refine ⟨_, rfl, a0, ns, rfl, hS, hn, fun p l H1 f1 P1 s1 => ?_⟩
    refine ⟨4, rfl, by decide, by decide, for_range (n := 4) (fun i σ H' => ∃ v2 v3 v4 v5 : Option V, σ = [some (.ref a0), some (.ref p), v2, v3, v4, v5] ∧ PenL H' p l (10000 * i) ∧ Tk K H') ⟨none, none, none, none, rfl, P1, Tbn.ext hT s1⟩ ?_ ?_⟩
    · rintro i σ G0 hi ⟨v2, v3, v4, v5, rfl, P0, T0⟩
      refine ⟨_, rfl, p, l, 20, _, rfl, by decide, P0, by omega, fun f G1 ts ps P1 B1 f1 f2 gf Pr lp up gd => ?_⟩
      have T1 : Tk K G1 := by
        obtain ⟨ns, x, y, hp, _⟩ := id P0
        exact tbn_lst T0 B1 hp
      refine ⟨_, rfl, _, rfl, p, l, f, ts, ps, _, rfl, P1, by omega, gf, f2, Pr, by omega, gd, fun g G2 xs P2 B2 f3 ngp g2 vv => ?_⟩
      have T2 : Tk K G2 := by
        obtain ⟨ns, x, y, hp, _⟩ := id P1
        exact tbn_lst T1 B2 hp
      refine fun x dx h1 h2 h3 => row_to h1 h2 h3 (vals_src (.inl (SqL.of g2)) vv (by omega)) up (by omega) fun G3 ys s3 ra its => ⟨rfl, ?_⟩
      have S3 : Sx K G3 p l (10000 * i + 330) x f ps := Sx.mono ⟨P2.same s3, ⟨ys, ra, its⟩, ⟨ts, s3 _ _ (B2 _ _ gf f2), Pr.keep fun t xs z => s3 _ _ (B2 _ _ z (ne_pen P1 z fun _ z => nomatch z))⟩, Tbn.ext T2 s3, f2⟩ (by omega)
      refine ⟨3, rfl, by decide, by decide, for_range (n := 3) (fun j σ H' => ∃ (f' : Addr) (ps' : List (Int × Str)) (w2 w5 : Option V), σ = [some (.ref a0), some (.ref p), w2, some (.ref f'), some (.ref x), w5] ∧ Sx K H' p l (10000 * i + 330 + 2100 * j) x f' ps' ∧ Asc ps' ∧ (∀ q ∈ ps', Gd q) ∧ ps'.length ≤ 20 + 12 * j) ⟨f, ps, _, _, rfl, S3, up_asc up (Nat.le_succ _), gd, by omega⟩ ?_ ?_⟩
      · rintro j σ G4 hj ⟨f', ps', w2, w5, rfl, S4, asc, gd', lp'⟩
        refine ⟨_, rfl, _, rfl, _, rfl, p, l, x, f', _, ps', rfl, S4, by omega, asc, gd', by omega, fun wy g' G5 S5 => ?_⟩
        have lS : (ps'.mergeSort (leP wy)).length = ps'.length := List.length_mergeSort _
        have gS := gd_sort (w := wy) gd'
        refine ⟨_, rfl, rfl, _, rfl, ite2 (fun z => absurd z (by simp)) fun _ => ?_⟩
        refine ⟨_, rfl, _, rfl, _, rfl, p, l, x, g', _, _, rfl, S5, by omega, gS, by omega, fun G6 S6 => ⟨_, rfl, iteF ?_⟩⟩
        refine ⟨_, rfl, _, rfl, _, rfl, p, l, x, g', _, _, rfl, S6, by omega, asc_sort _ _, gS, by omega, fun g2 G7 us S7 asc7 gd7 l7 => ?_⟩
        refine ⟨_, rfl, rfl, _, rfl, ite2 (fun z => absurd z (by simp)) fun _ => ?_⟩
        exact ⟨g2, us, _, _, rfl, S7.mono (by omega), asc7, gd7, by omega⟩
      · rintro σ G ⟨f', ps', w2, w5, rfl, S4, _⟩
        exact ⟨_, _, _, _, rfl, S4.P.mono (by omega), S4.tk⟩
    · rintro σ G ⟨v2, v3, v4, v5, rfl, P0, T0⟩
      exact k _
end
end K09
namespace K09
open PySem PySem.Spec PyProof.Rows L2 He Tw
theorem find_nd : ∀ {L : List (Addr × Str)} {p : Addr × Str}, (L.map (·.1)).Nodup → p ∈ L → L.find? (fun q => decide (q.1 = p.1)) = some p
  | [], _, _, h => nomatch h
  | q :: L, p, nd, h => by
    obtain ⟨n1, n2⟩ := List.nodup_cons.mp nd
    rcases List.mem_cons.mp h with rfl | h
    · exact List.find?_cons_of_pos (decide_eq_true rfl)
    · have n : ¬ (decide (q.1 = p.1) = true) := fun z => by
        have e : q.1 = p.1 := of_decide_eq_true z
        exact n1 (List.mem_map.mpr ⟨p, h, e.symm⟩)
      rw [List.find?_cons_of_neg (p := fun q : Addr × Str => decide (q.1 = p.1)) n]
      exact find_nd n2 h
/-- tables of which none holds anything yet -/
theorem tbn_nil {L : List (Addr × Str)} {H : Hp} (nd : (L.map (·.1)).Nodup) (h : ∀ p ∈ L, H p.1 = some (.tbl #[])) : Tbn host L H := by
  refine ⟨fun P => (L.find? fun q => decide (q.1 = P)).map (·.2), fun p hp => ?_, fun P q hq => ⟨#[], ?_, trivial, fun pos cv hc => nomatch hc⟩⟩
  · show (L.find? fun q => decide (q.1 = p.1)).map (·.2) = some p.2
    rw [find_nd nd hp]
    rfl
  · obtain ⟨p, hf, _⟩ := Option.map_eq_some_iff.mp hq
    have e : p.1 = P := of_decide_eq_true (List.find?_some (p := fun q : Addr × Str => decide (q.1 = P)) hf)
    rw [← e]
    exact h p (List.mem_of_find?_eq_some hf)
end K09
/-! Tw: the law's end with tables of code objects, where no repr runs around. -/
namespace Tw
open PySem PySem.Spec PyProof.Rows L2 LamX
theorem law_tabG {P : Program} {w : World} {K : PySem.W.Frag} {mg mb : Str → Option Value} {CX : CXT} {k : Nat} {fa a : Addr} {cs : List (Addr × Addr)} {fd : FuncData} {x : Str} {sp : Sp} {s0 : Shared} {vs : List Value} {ns : List Int}
    (KX : K.In s0.heap) (hns : s0.heap.Ns mainGlobals mg) (hb : s0.heap.Ns builtinsNs mb) (hbb : ∀ x : Str, x ≠ "__name__" → mb x = bootBuiltins x) (hlim : s0.heap.NoLimit) (hg : s0.gens = #[])
    (hT : ∀ p ∈ cs, s0.heap.get? p.2 = some { cls := .none, data := .fields #[] }) (nT : ∀ p ∈ cs, K.lookup p.2 = none) (C : ∀ p ∈ cs, PySem.W.CodeHd s0.heap p.1 p.2)
    (hbm : ∃ (bm : Addr) (ob : Obj), mg "__builtins__" = some (.ref bm) ∧ bm ≠ builtinsNs ∧ s0.heap.get? bm = some ob ∧ ob.cls = .type "module" ∧ ob.dict = some builtinsNs ∧ ob.data = .plain)
    (ha : s0.heap.get? a = some { cls := .type "list", data := .seq vs.toArray }) (hi : IntsAre vs ns) (hl : ns.length ≤ sizeLine) (hr : Room k callerA)
    (F : ∀ base : Heap, K.In base → base.Ns mainGlobals mg → (∀ p ∈ cs, TabB base mg p.1 p.2) → FnG P w K mg base CX k fa fd [x] sp) (hbind : ∀ (s : Shared) (u : Value), BindsTo s fd ⟨[u], []⟩ [(x, u)])
    (hsp : ∀ H : Hp, (∀ p ∈ cs, H p.2 = some (.tbl #[])) → SqL K H a (ns.map V.int) → sp [.ref a] H (fun v _ => v = .bl true) fun _ _ _ => False)
    (hCX : ∀ H e s', CX [] H s0 (fun _ _ _ => False) e s' → False) :
    codeAny (model P w) callerA (.call (.ref fa) ⟨[.ref a], []⟩) (fun r s' => r = .ok (.ret (.bool true)) ∧ OldK s0.heap s'.heap ∧ s'.os = s0.os ∧ AllBare s'.gens) s0 := by
  have rv := vals_ints hi
  have lenVs := hi.length
  have atTab : ∀ b : Addr, b ∈ cs.map (·.2) → s0.heap.get? b = some { cls := .none, data := .fields #[] } := fun b hb => by
    obtain ⟨p, hp, e⟩ := List.mem_map.mp hb
    rw [← e]
    exact hT p hp
  have notTab : a ∉ cs.map (·.2) := fun z => by
    have q := atTab a z
    rw [ha] at q
    have z' : Data.seq vs.toArray _ = Data.fields #[] := congrArg Obj.data (Option.some.inj q)
    cases z'
  have inTab : ∀ p ∈ cs, p.2 ∈ cs.map (·.2) := fun p hp => List.mem_map.mpr ⟨p, hp, rfl⟩
  -- from an abstract heap in which nothing but the script and the tables may be tracked
  have body : ∀ H : Hp, (∀ p ∈ cs, H p.2 = some (.tbl #[])) → (∀ b, H b = none ∨ b ∈ cs.map (·.2) ∨ ∃ o xs, H b = some (.frz o (.lst xs))) → SqL K H a (ns.map V.int) → HOk P w H s0.heap → (∀ b, H b ≠ none → b = a ∨ b ∈ cs.map (·.2)) → (H a ≠ none → K.lookup a = none) →
      codeAny (model P w) callerA (.call (.ref fa) ⟨[.ref a], []⟩) (fun r s' => r = .ok (.ret (.bool true)) ∧ OldK s0.heap s'.heap ∧ s'.os = s0.os ∧ AllBare s'.gens) s0 := by
    intro H hH hO hS hok hA hK
    have getHid : ∀ {b : Addr} {o : Obj}, s0.heap.get? b = some o → H b = none → (hidT s0.heap H).get? b = some o := fun e n => hidT_get e n
    have noDat : ∀ {b : Addr} {o : Obj}, s0.heap.get? b = some o → (∀ vs n, o.data ≠ .seq vs n) → o.data ≠ .fields #[] → H b = none := fun {b o} e h1 h2 => by
      cases q : H b with
      | none => rfl
      | some u =>
        rcases hA b (by rw [q]; simp) with e' | e'
        · rw [e', ha] at e
          cases e
          exact (h1 _ _ rfl).elim
        · rw [atTab b e'] at e
          cases e
          exact (h2 rfl).elim
    have noDic : ∀ {b : Addr} {o : Obj} {es : Array DictEntry} {ep : Nat}, s0.heap.get? b = some o → o.data = .dict es ep → H b = none := fun {b o es ep} e d => by
      refine noDat e (fun vs n z => ?_) fun z => ?_
      · rw [d] at z
        cases z
      · rw [d] at z
        cases z
    have nsHid : ∀ {b : Addr} {m : Str → Option Value}, s0.heap.Ns b m → (hidT s0.heap H).Ns b m := fun {b m} ⟨o, es, ep, e, d, r⟩ => ⟨o, es, ep, getHid e (noDic e d), d, r⟩
    have kHid : K.In (hidT s0.heap H) := fun b o e => getHid (KX b o e) (by
      cases q : H b with
      | none => rfl
      | some u =>
        rcases hA b (by rw [q]; simp) with e' | e'
        · rw [e'] at e q
          rw [hK (by rw [q]; simp)] at e
          cases e
        · obtain ⟨p, hp, ep⟩ := List.mem_map.mp e'
          rw [← ep, nT p hp] at e
          cases e)
    have hMod : L2.Mod K mg (hidT s0.heap H) := ⟨kHid, nsHid hns, ⟨mb, nsHid hb, hbb⟩, let ⟨mc, h1, h2⟩ := hlim; ⟨mc, nsHid h1, h2⟩⟩
    have TB : ∀ p ∈ cs, TabB (hidT s0.heap H) mg p.1 p.2 := fun p hp => by
      have hTp := hT p hp
      refine ⟨?_, ?_, fun z => ?_⟩
      · obtain ⟨o, us, file, tf, flags, tg, inF, text, tt, e1, r1, r2, r3, r4, r5, r6, r7, r8, hne⟩ := C p hp
        refine ⟨o, us, file, tf, flags, tg, inF, text, tt, getHid e1 (noDat e1 (fun vs n z => ?_) fun z => ?_), r1, r2, r3, r4, r5, r6, r7, r8, hne⟩
        · rw [r2] at z
          cases z
        · rw [r2] at z
          cases z
          simp at r3
      · obtain ⟨bm, ob, b1, b2, b3, b4, b5, b6⟩ := hbm
        have nG : bm ≠ mainGlobals := fun q => by
          obtain ⟨o, es, ep, e, hd, _⟩ := hns
          rw [q, e] at b3
          cases b3
          rw [hd] at b6
          cases b6
        have nP : bm ≠ p.2 := fun q => by
          rw [q, hTp] at b3
          cases b3
          cases b6
        refine ⟨bm, ob, b1, b2, nG, nP, getHid b3 (noDat b3 (fun vs n z => ?_) fun z => ?_), b4, b5, b6⟩
        · rw [b6] at z
          cases z
        · rw [b6] at z
          cases z
      · obtain ⟨o, es, ep, e, hd, _⟩ := hns
        rw [z, hTp] at e
        cases e
        cases hd
    have e0 : Env0 P w K mg (hidT s0.heap H) callerA [] s0 H := ⟨rfl, hMod, fun b o e => of_hidT e, Nat.le_of_eq (hidT_size _ _), trivial, fun b hb => absurd (show b ∈ ([] : List Addr) from hb) (by simp), hok, .of_eq hg⟩
    refine codeAny_mono ((F _ kHid (nsHid hns) TB).run callerA [] s0 H ⟨[.ref a], []⟩ [.ref a] [.ref a] _ _ hr rfl e0 (hbind s0 (.ref a)) (.cons rfl .nil) (hsp H hH hS)) fun r s' h => ?_
    cases r with
    | error e => exact (hCX H e s' h).elim
    | ok fl =>
      cases fl with
      | next => exact False.elim h
      | brk => exact False.elim h
      | cont => exact False.elim h
      | ret u =>
        obtain ⟨v, H', os, bare, un, hok', r', q⟩ := h
        have q' : v = .bl true := q
        subst q'
        obtain rfl : u = Value.bool true := r'
        have keepB : ∀ b o, b ∉ cs.map (·.2) → s0.heap.get? b = some o → s'.heap.get? b = some o := fun b o nb e => by
          cases q : H b with
          | none => exact un.keep b o e q (by intro z; exact absurd (show b ∈ ([] : List Addr) from z) (by simp)) (by simp)
          | some u =>
            rcases hO b with z | z | ⟨ob, xs, z⟩
            · rw [q] at z; cases z
            · exact absurd z nb
            · have z2 := un.frzs b ob _ z
              obtain ⟨e1, _⟩ := hok b _ z
              obtain ⟨e2, _⟩ := hok' b _ z2
              rw [e] at e1; cases e1
              exact e2
        have more : ∀ p ∈ cs, ∃ mo : Array Value, s'.heap.get? p.2 = some { cls := .none, data := .fields mo } := fun p hp => by
          obtain ⟨mo, z⟩ := un.tbls p.2 #[] (hH p hp)
          exact ⟨_, hok' p.2 _ z⟩
        refine ⟨rfl, ⟨fun b o e => ?_, fun b o e => ?_⟩, os, bare⟩
        · by_cases hb : b ∈ cs.map (·.2)
          · obtain ⟨p, hp, ep⟩ := List.mem_map.mp hb
            obtain ⟨mo, hm⟩ := more p hp
            rw [← ep] at e ⊢
            rw [hT p hp] at e
            cases e
            exact .inr (.inl ⟨((C p hp).tab (hT p hp)).isCodeTable, rfl, #[], mo, rfl, by rw [Array.empty_append]; exact hm⟩)
          · exact .inl (keepB b o hb e)
        · by_cases hb : b ∈ cs.map (·.2)
          · obtain ⟨p, hp, ep⟩ := List.mem_map.mp hb
            obtain ⟨mo, hm⟩ := more p hp
            rw [← ep]
            exact ⟨_, hm⟩
          · exact ⟨o, keepB b o hb e⟩
  cases hk : K.lookup a with
  | some o =>
    have e := KX a o hk
    rw [ha] at e
    cases e
    refine body (fun b => if b ∈ cs.map (·.2) then some (.tbl #[]) else none) (fun p hp => if_pos (inTab p hp)) (fun b => ?_) (.inr ⟨_, vs.toArray, _, hk, rfl, rfl, rfl, by rw [List.size_toArray, lenVs]; exact hl, by simpa using rv⟩) (fun b u z => ?_) (fun b z => ?_) fun z => absurd (show (if a ∈ cs.map (·.2) then some (HO.tbl #[]) else none) = none from if_neg notTab) z
    · by_cases hb : b ∈ cs.map (·.2)
      · exact .inr (.inl hb)
      · exact .inl (if_neg hb)
    · by_cases hb : b ∈ cs.map (·.2)
      · have z' := (if_pos hb).symm.trans z
        cases z'
        exact atTab b hb
      · have z' := (if_neg hb).symm.trans z
        cases z'
    · by_cases hb : b ∈ cs.map (·.2)
      · exact .inr hb
      · exact absurd (if_neg hb) z
  | none =>
    refine body (fun b => if b = a then some (.frz { cls := .type "list", data := .seq vs.toArray } (.lst (ns.map V.int))) else if b ∈ cs.map (·.2) then some (.tbl #[]) else none) (fun p hp => (if_neg (show ¬ p.2 = a from fun z => notTab (by rw [← z]; exact inTab p hp))).trans (if_pos (inTab p hp))) (fun b => ?_)
      (.inl (.inr ⟨{ cls := .type "list", data := .seq vs.toArray }, if_pos rfl⟩)) (fun b u z => ?_) (fun b z => ?_) fun _ => hk
    · by_cases hb : b = a
      · exact .inr (.inr ⟨_, _, if_pos hb⟩)
      · by_cases hb2 : b ∈ cs.map (·.2)
        · exact .inr (.inl hb2)
        · exact .inl ((if_neg hb).trans (if_neg hb2))
    · by_cases hb : b = a
      · have z' := (if_pos hb).symm.trans z
        cases z'
        rw [hb]
        exact ⟨ha, by rw [List.length_map]; exact hl, vs, _, rv, ha⟩
      · have z1 := (if_neg hb).symm.trans z
        by_cases hb2 : b ∈ cs.map (·.2)
        · have z' := (if_pos hb2).symm.trans z1
          cases z'
          exact atTab b hb2
        · have z' := (if_neg hb2).symm.trans z1
          cases z'
    · by_cases hb : b = a
      · exact .inl hb
      · by_cases hb2 : b ∈ cs.map (·.2)
        · exact .inr hb2
        · exact absurd ((if_neg hb).trans (if_neg hb2)) z
/-- what is known of the law's promise at the head's heap -/
def LawAtG (l : PySem.W.OpenLaw) (w : World) (K : PySem.W.Frag) (CX : CXT) (k n : Nat) (x : Str) (mg : Str → Option Value) (fa : Addr) (h : Heap) : Prop :=
  ∃ (fd : FuncData) (cs : List (Addr × Addr)) (sp : Sp), (∀ p ∈ cs, h.get? p.2 = some { cls := .none, data := .fields #[] }) ∧ (∀ p ∈ cs, K.lookup p.2 = none) ∧ (∀ p ∈ cs, PySem.W.CodeHd h p.1 p.2) ∧ (∀ (s : Shared) (u : Value), BindsTo s fd ⟨[u], []⟩ [(x, u)]) ∧
    (∀ (H : Hp) (a : Addr) (ns : List Int), ns.length ≤ n → (∀ z ∈ ns, Builtin.Int.intBits z ≤ 1048576) → (∀ p ∈ cs, H p.2 = some (.tbl #[])) → SqL K H a (ns.map V.int) → sp [.ref a] H (fun v _ => v = .bl true) fun _ _ _ => False) ∧
    ∀ base : Heap, K.In base → base.Ns mainGlobals mg → (∀ p ∈ cs, TabB base mg p.1 p.2) → FnG l.prog w K mg base CX k fa fd [x] sp
theorem walk_ofTsG {l : PySem.W.OpenLaw} {n k : Nat} {q : Program} {loose : List Str} {XP : (Str → Option Value) → Heap → Prop} {YP : World → Heap → Prop} {d : DefRec} {CX : World → CXT} {x : Str}
    (hn : l.most = some n) (hn2 : n ≤ sizeLine) (hdf : d.params.defaults = []) (hr : Room k callerA)
    (F : ∀ (w : World) (mg : Str → Option Value) (fa : Addr) (h : Heap), YP w h → h.Ns mainGlobals mg → mg d.name = some (.ref fa) → ∃ K : PySem.W.Frag, K.In h ∧ LawAtG l w K (CX w) k n x mg fa h)
    (hCX : ∀ (w : World) (H : Hp) (s : Shared) (e : Value) (s' : Shared), CX w [] H s (fun _ _ _ => False) e s' → False) :
    PySem.W.WalkO q loose XP YP l.row.toRowW d [] (fun f vs => PySem.call f vs) := by
  refine Att.attach_callB hn hdf fun w s₀ s1 mg mb fa o pm cd doc a vs ns G Y ho hd hcd hmg hobj hints hlen hbits hg => ?_
  obtain ⟨K, KX, fd, cs, sp, hT, nT, C, hb, hsp, hF⟩ := F w mg fa _ Y G.T.g hmg
  exact law_tabG KX G.T.g G.T.b G.T.builtins G.T.nolimit hg hT nT C G.T.bmain hobj hints (Nat.le_trans hlen hn2) hr hF hb (fun H hH hS => hsp H a ns hlen hbits hH hS) fun H e s' => hCX w H s1 e s'
end Tw
namespace K09
open PySem PySem.Spec PyProof.Rows L2 He Tw
theorem facts {P : Program} {w : World} {K : Fg} {h : Heap} {mg : Str → Option Value} (X : K.In h) (G : h.Ns mainGlobals mg) (c : SaysZ fs fn K) :
    ∃ (u : FuncData), Txt K mg ∧ (∀ (s : Shared) (v : Value), BindsTo s u ⟨[v], []⟩ [("_law_script", v)]) ∧ ∀ base : Heap, K.In base → base.Ns mainGlobals mg → (∀ p ∈ csZ ls K, LamX.TabB base mg p.1 p.2) → FnG P w K mg base CX0 34 (ga K "law") u ["_law_script"] (spLaw K) := by
  obtain ⟨fd, D⟩ := c.defs (d0 := fn.headD (dF "law" 49)) rfl
  have T : Txt K mg := ⟨c, fun x hx => He.glo_ok X G hx, fun x hx => He.free_ok X G hx, fun x i hx => He.int_ok X G hx, fun x z hx => He.str_ok X G hx⟩
  have F : FnP K "law" "law" s_law (ga K "law") (fd 41) := D 41 _ rfl
  have b : ∀ (s : Shared) (us : List Value), us.length = (["_law_script"] : List Str).length → BindsTo s (fd 41) ⟨us, []⟩ ((["_law_script"] : List Str).zip us) := FunD.bindsA (ps := ["_law_script"]) F fun _ _ _ _ _ _ us hl => match us, hl with | [_], _ => rfl
  exact ⟨fd 41, T, fun s v => b s [v] rfl, fun base _ _ tb => G_law D T fun f hf => tb _ (List.mem_map.mpr ⟨f, hf, rfl⟩)⟩
end K09
open PySem PySem.W PySem.Calls PyProof.Rows
set_option maxHeartbeats 0 in
theorem PySem.Challenge.cw_twoheads_k09_rows_settled_and_tried_holds : PySem.Challenge.rw_twoheads_k09_rows_settled_and_tried.Holds := by
  w_on; o_law
  refine HandSHeadRun.head_any (r := OpenLaw.row PySem.Challenge.rw_twoheads_k09_rows_settled_and_tried) (q := view (OpenLaw.row PySem.Challenge.rw_twoheads_k09_rows_settled_and_tried).prog [49]) (H := K09.hk) (ob := K09.ob) (M := 9000) (loose := K09.others) (d := HandSHeadRun.topDef (OpenLaw.row PySem.Challenge.rw_twoheads_k09_rows_settled_and_tried).prog 49) (kwd := []) K09.ob_eq
    (by kernel_rfl) (fun s => by kernel_rfl) K09.run (by kernel_rfl) (by kernel_rfl) (by kernel_rfl) (by rfl) (by first | assumption | decide +kernel) (by decide +kernel) ⟨rfl, rfl, rfl, rfl, rfl, by decide +kernel⟩ ?hw ?hc
  case hw => w_witness2
  case hc =>
    refine Tw.walk_ofTsG (l := PySem.Challenge.rw_twoheads_k09_rows_settled_and_tried) (n := 63) (k := 34) (x := "_law_script") (CX := fun _ => L2.CX0) rfl (by decide) (by kernel_rfl) ⟨rfl, by decide, by decide⟩ ?F (fun _ _ _ _ _ z => z)
    intro w mg fa h Y G hmg0
    obtain ⟨K, KX, c, tabs⟩ := Y
    have hmg : mg ("law" : PySem.Str) = some (.ref fa) := by
      have e : (HandSHeadRun.topDef (OpenLaw.row PySem.Challenge.rw_twoheads_k09_rows_settled_and_tried).prog 49).name = ("law" : PySem.Str) := by kernel_rfl
      rw [← e]
      exact hmg0
    obtain ⟨fd, T, hb, hF⟩ := K09.facts (P := (PySem.Challenge.rw_twoheads_k09_rows_settled_and_tried).prog) (w := w) KX G c
    have T0 : mg ("law" : PySem.Str) = some (.ref (He.ga K "law")) := T.fn (x := "law") (by decide +kernel)
    have ef : fa = He.ga K "law" := by
      rw [hmg] at T0
      exact Value.ref.inj (Option.some.inj T0)
    subst ef
    have tb : ∀ f ∈ K09.ls, Tw.tabB K (f K) = true := fun f hf => T.tab hf
    refine ⟨K, KX, fd, Tw.csZ K09.ls K, K09.spLaw K, fun p hp => ?_, fun p hp => ?_, fun p hp => ?_, hb, fun H a ns hl _ hH hS => ⟨a, ns, rfl, hS, hl, K09.tbn_nil ?_ (fun q hq => ?_), fun _ => rfl⟩, hF⟩
    · obtain ⟨f, hf, rfl⟩ := List.mem_map.mp hp
      exact Tw.isTab_ok (tabs f hf)
    · obtain ⟨f, hf, rfl⟩ := List.mem_map.mp hp
      exact Option.isNone_iff_eq_none.mp (Bool.and_eq_true_iff.mp (tb f hf)).2
    · obtain ⟨f, hf, rfl⟩ := List.mem_map.mp hp
      exact PySem.W.codeHd_of_K KX (Bool.and_eq_true_iff.mp (tb f hf)).1
    · exact T.tabnd
    · have hm : q.1 ∈ (K09.tabs.map fun f => Tw.tabAt K (f K)) := List.mem_map.mpr (by
        have h1 : q.1 ∈ (K09.Tb K).map (·.1) := List.mem_map.mpr ⟨q, hq, rfl⟩
        exact List.mem_map.mp (show q.1 ∈ (K09.tabs.map fun f => Tw.tabAt K (f K)) from h1))
      obtain ⟨f, hf, e⟩ := List.mem_map.mp hm
      have := hH (Tw.codeAt K (f K), Tw.tabAt K (f K)) (List.mem_map.mpr ⟨f, hf, rfl⟩)
      rw [← e]
      exact this
#print axioms PySem.Challenge.cw_twoheads_k09_rows_settled_and_tried_holds
