import PyProof.Rows.All
import Wide.All
import OpenK.AllK
import Wide.FinOn
import PyProof.ReprRoads
import HandS.ForMost
import HandS.Exc
import HandS.TryOnly
import HandS.ExcOwn
import HandS.WordsExc
import HandS.Wide
import HandS.EndBits
import HandS.Defaults
import HandS.ExcInit
import HandS.ExcIs
import HandS.ExcField
import HandS.IsInst
import HandS.Property
import HandS.OwnEq
import HandS.DictComp
import HandS.DeepEq
import HandS.Strs
import HandS.Head0
import HandS.Head1
import HandS.Head2
import HandS.HeadEnd
import HandS.HeadHook1
import HandS.HeadHook2
import HandS.HeadHook4
import HandS.Walk
import HandS.MakeKw
import KE.KExcIs
import PyProof.InstEq
import PyProof.InstNe
import HandS.Conv
import HandS.TupSets
import HandS.Finally
import HandS.Style
import KE.KDictKeyed
import KE.KDictLaw
import HandS.RepeatKit
import PyProof.TupleOfSeq
import PyProof.CodeObj
import PyProof.MakeMany
import PyProof.Seq
import HandS.Iter
import PyProof.EnumMake
import PyProof.TupleIter
import PyProof.Draws
import HandS.Deep
import HandS.SortInts
import KE.KDictDisplayH
import HandS.Head3
import PySem.Challenge.RW_dugdays_k20_best_packings_told
set_option Elab.async false
set_option linter.all false
set_option maxRecDepth 100000
set_option maxHeartbeats 0
/-! Own rules, laid over the hand layer: powers of great ints, repr of data, defs that may call repr. -/
namespace Gx
open PySem PySem.Spec PyProof.Rows L2

/-! ### great powers -/
theorem bits_of_lt {a : Int} {k : Nat} (h : a.natAbs < 2 ^ k) : Builtin.Int.intBits a ≤ k := by
  unfold Builtin.Int.intBits
  split
  · omega
  · rename_i hz
    have hne : a.natAbs ≠ 0 := by
      intro z
      apply hz
      have : a = 0 := Int.natAbs_eq_zero.mp z
      rw [this]; rfl
    have := (Nat.log2_lt hne).mpr h
    omega
theorem lt_of_bits {a : Int} {k : Nat} (h : Builtin.Int.intBits a ≤ k) : a.natAbs < 2 ^ k := by
  unfold Builtin.Int.intBits at h
  split at h
  · rename_i hz
    have : a = 0 := by simpa using hz
    rw [this]
    exact Nat.two_pow_pos k
  · have h2 : a.natAbs < 2 ^ (a.natAbs.log2 + 1) := Nat.lt_log2_self
    exact Nat.lt_of_lt_of_le h2 (Nat.pow_le_pow_right (by decide) h)
def PowFits (i j : Int) : Prop := 0 ≤ j ∧ (Builtin.Int.intBits i : Int) * j ≤ 2 ^ 27
theorem op_powW {X : Cx} : OpR X (binaryOp .Pow) (rI PowFits fun i j => .int (i ^ j.toNat)) := opI fun _ _ _ _ _ _ _ hc q => pow_int hc.1 hc.2 q

/-! ### defs that may run into repr: no guard runs ahead of them -/
structure FnG (P : Program) (w : World) (K : PySem.W.Frag) (mg : Str → Option Value) (base : Heap) (CX : CXT) (k : Nat) (f : Addr) (fd : FuncData) (ps : List Str) (sp : Sp) : Prop where
  len : ∀ vs H Q E, sp vs H Q E → vs.length = ps.length
  go : ∀ (A : Around) (fr : List Env) (s : Shared) (H : Hp) (gs : Args) (us : List Value) (vs : List V) (Q : VK) (E : XK), A.guards = some [] → Room k A → Env0 P w K mg base A fr s H → BindsTo s fd gs (ps.zip us) → Vals vs us →
    sp vs H Q E → codeAny (model P w) A (.call (.ref f) gs) (CR CX fr P w H s Q E) s
section
variable {P : Program} {w : World} {K : PySem.W.Frag} {mg : Str → Option Value} {base : Heap} {CX : CXT}
theorem FnG.of {k : Nat} {f : Addr} {fd : FuncData} {ps : List Str} {sp : Sp} (F : FnOk P w K mg base CX k f fd ps sp) : FnG P w K mg base CX k f fd ps sp :=
  ⟨F.len, fun A fr s H gs us vs Q E _ => F.run A fr s H gs us vs Q E⟩
/-- such a def's body, walked in its frame -/
theorem FnG.body {x qual : Str} {params : Arguments} {body : List Stmt} {scope : Scope} {dvs : List V} {kws : List (Str × V)} {f : Addr} {fd : FuncData} {N ps : List Str} {k : Nat} {sp : Sp} (F : FunD K x qual params body scope dvs kws f fd) (S : FnScope N ps scope)
    (ln : ∀ vs H Q E, sp vs H Q E → vs.length = ps.length)
    (hb : ∀ (cdv : Value) (A : Around) (fr : List Env) (s : Shared) (H : Hp) (vs : List V) (Q : VK) (E : XK), (A.deeper (envOfC qual scope s.heap.objs.size f cdv)).guards = some [] → Room k (A.deeper (envOfC qual scope s.heap.objs.size f cdv)) → sp vs H Q E →
      ∃ t, PSs (cxOf CX P w K mg base N qual scope f cdv A fr s H E) body t ∧ t { nx := fun _ H' => Q .non H', rt := Q } (start N vs) H) : FnG P w K mg base CX (k + 1) f fd ps sp := by
  refine ⟨ln, fun A fr s H gs us vs Q E hg hr e0 bt rv hs => ?_⟩
  obtain ⟨oc, od, dV, kV, doc, pm, an, cdv, ct, sl, rfl, lk, cc, _, _⟩ := F.ex
  have lv := ln _ _ _ _ hs
  have KX : K.In s.heap := e0.mod.kin.keeps fun b o e => (e0.bs b o e).1
  have nl : s.heap.NoLimit := e0.mod.nolimit.keeps fun b o e => (e0.bs b o e).1
  have kd : ∀ y ∈ ps.zip us, scope.names.lookup y.1 = some .local ∨ (scope.names.lookup y.1 = some .cell ∧ ((cellsFrom (s.heap.objs.size + 1) scope.names []).lookup y.1).isSome = true) := by
    rintro ⟨n, v⟩ hy
    have := S.par n (List.of_mem_zip hy).1
    exact this.imp id fun q => ⟨q, PySem.W.cellsFrom_some _ _ _ (.inl q)⟩
  apply codeAny_call_function hr.depth (KX _ _ lk) rfl S.co S.gen rfl (PySem.W.codeRec_of KX cc) (bt _ _ _ _ _)
  apply wpAny_newFunctionEnv_cells S.kind kd
  intro env he s1 x
  cases he
  refine ⟨nl.keeps x.toInCall.keep, codeAny_func ?_⟩
  obtain ⟨t, ht, q⟩ := hb cdv A fr s H vs Q E hg (hr.deeper _) hs
  refine wpAny_mono (ht.run [] s1 (start N vs) H _ (inv_start S hr.hd e0 lv rv x) q) ?_ fun e s' z => z
  rintro (_ | _ | _ | u) s' z
  · obtain ⟨σ', H', J, q⟩ := z
    exact ⟨V.non, H', J.os, J.bare, J.base, J.hok, rfl, q⟩
  · obtain ⟨_, _, _, q⟩ := z
    exact False.elim q
  · obtain ⟨_, _, _, q⟩ := z
    exact False.elim q
  · obtain ⟨v, σ', H', J, r, q⟩ := z
    exact ⟨v, H', J.os, J.bare, J.base, J.hok, r, q⟩
end

/-! ### calls of such defs -/
section
variable {X : Cx} {CX : CXT} {k : Nat} {f : Addr} {fd : FuncData} {ps : List Str} {sp : Sp} {dvs : List V} {ds : List Value} {E : XK} {x : Str} {p pos : Pos} {e : Expr} {es : List Expr} {t : TA}
theorem pe_callG (F : FnG X.prog X.w X.K X.mg X.base CX k f fd ps sp) (hgd : X.A.guards = some []) (hr : Room k X.A) (hg : Gl X x) (hm : X.mg x = some (.ref f)) (hk : PySem.W.keepIn X.K (.ref f) = true) (hb : Binds X.K fd ps ds) (hd : Vals dvs ds) (hx : Passes CX X E)
    (ha : PA X (e :: es) t) (hdb : (x == ("__debug__" : Str)) = false := by decide) (he : starEach (e :: es) X.env = (false, eval e X.env) :: starEach es X.env := by rfl) (hpl : (backTo pos (starEach es X.env)).any (·.1) = false := by rfl) :
    PE X (.Call (.Name x p) (e :: es) [] pos) (tCall sp dvs E t) := by
  constructor
  intro pins s σ H Q I h
  apply wpAny_Call_Name_kw (ld_glob I hg hm ?_ hdb)
  refine PySem.W.callWith_K (h₀ := X.base) I.ok.mod.kin hk (thn (ha.run pos pins s σ H _ I h) ?_) he hpl
  rintro us s1 ⟨vs, H1, I1, r1, q1⟩
  refine ⟨I1.kIn, ?_⟩
  have r2 : Vals (vs ++ dvs) (us ++ ds) := r1.append hd
  have hl : (us ++ ds).length = ps.length := r2.length.symm.trans (F.len _ _ _ _ q1)
  apply wpAny_call
  refine codeAny_mono (F.go X.A X.stack s1 H1 ⟨us, []⟩ (us ++ ds) (vs ++ dvs) Q E hgd hr I1.env0 (hb s1 us I1.kIn hl) r2 q1) ?_
  rintro (er | (_ | _ | _ | u)) s' hq
  · exact hx pins σ H1 s1 er s' I1 hq
  · exact False.elim hq
  · exact False.elim hq
  · exact False.elim hq
  · exact I1.after hq
end

/-! ### the end of a law whose def may call repr; the script's bits are told -/
/-- the script: an object that is known and never written -/
def ScrAt (K : PySem.W.Frag) (H : Hp) (a : Addr) (ns : List Int) : Prop := (∃ o, H a = some (.frz o (.lst (ns.map V.int)))) ∨
  ∃ (o : Obj) (its : Array Value) (n : Nat), K.lookup a = some o ∧ o.cls = .type "list" ∧ o.dict = none ∧ o.data = .seq its n ∧ its.size ≤ sizeLine ∧ Vals (ns.map V.int) its.toList
theorem ScrAt.sq {K : PySem.W.Frag} {H : Hp} {a : Addr} {ns : List Int} (h : ScrAt K H a ns) : SqL K H a (ns.map V.int) := h.elim (fun h => .inl (.inr h)) .inr
theorem ScrAt.mono {K : PySem.W.Frag} {H H' : Hp} {a : Addr} {ns : List Int} (k : ∀ b o u, H b = some (.frz o u) → H' b = some (.frz o u)) (h : ScrAt K H a ns) : ScrAt K H' a ns := h.imp (fun ⟨o, e⟩ => ⟨o, k _ _ _ e⟩) id
theorem ScrAt.upd {K : PySem.W.Frag} {H : Hp} {a p : Addr} {ns : List Int} {u v : HO} (h : ScrAt K H a ns) (hp : H p = some u) (hn : ∀ o w, u ≠ .frz o w) : ScrAt K (upd H p v) a ns :=
  h.mono fun b o w e => by rw [upd_ne (ne_of e hp (Ne.symm (hn o w)))]; exact e
section
variable {P : Program} {w : World} {K : PySem.W.Frag} {mg mb : Str → Option Value} {CX : CXT} {k : Nat} {fa a : Addr} {fd : FuncData} {x : Str} {sp : Sp} {s₁ : Shared} {vs : List Value} {ns : List Int}
/-- the entry over an abstract heap that holds the script alone, or nothing -/
theorem enter_at (H : Hp) (KX : K.In s₁.heap) (n1 : s₁.heap.Ns mainGlobals mg) (n2 : s₁.heap.Ns builtinsNs mb) (bb : ∀ x : Str, x ≠ "__name__" → mb x = bootBuiltins x) (nl : s₁.heap.NoLimit) (hg : s₁.gens = #[]) (hr : Room k callerA)
    (obj : s₁.heap.get? a = some { cls := .type "list", data := .seq vs.toArray }) (hok : HOk P w H s₁.heap) (hA : ∀ b u, H b = some u → b = a ∧ K.lookup a = none ∧ ∃ o xs, u = .frz o (.lst xs))
    (F : ∀ base : Heap, K.In base → base.Ns mainGlobals mg → FnG P w K mg base CX k fa fd [x] sp) (hb : ∀ (s : Shared) (u : Value), BindsTo s fd ⟨[u], []⟩ [(x, u)]) (q : sp [.ref a] H (fun v _ => v = .bl true) fun _ _ _ => False)
    (hCX : ∀ H e s', CX [] H s₁ (fun _ _ _ => False) e s' → False) :
    codeAny (model P w) callerA (.call (.ref fa) ⟨[.ref a], []⟩) (fun r s' => r = .ok (.ret (.bool true)) ∧ OldK s₁.heap s'.heap ∧ s'.os = s₁.os ∧ AllBare s'.gens) s₁ := by
  have non : ∀ {b : Addr} {o : Obj}, s₁.heap.get? b = some o → (∀ vs' n, o.data ≠ .seq vs' n) → H b = none := fun {b o} e d => by
    rcases hq : H b with _ | u
    · rfl
    · have z := (hA b u hq).1
      subst z
      rw [obj] at e
      cases e
      exact absurd rfl (d _ _)
  have ns' : ∀ {b : Addr} {m : Str → Option Value}, s₁.heap.Ns b m → (hidT s₁.heap H).Ns b m := by
    rintro b m ⟨o, es, ep, e, d, r⟩
    exact ⟨o, es, ep, hidT_get e (non e fun v n z => by rw [d] at z; cases z), d, r⟩
  have kb : K.In (hidT s₁.heap H) := fun b o e => hidT_get (KX b o e) <| by
    rcases hq : H b with _ | u
    · rfl
    · obtain ⟨z, z2, _⟩ := hA b u hq
      rw [z, z2] at e
      cases e
  have M : Mod K mg (hidT s₁.heap H) := ⟨kb, ns' n1, ⟨mb, ns' n2, bb⟩, nl.elim fun mc h => ⟨mc, ns' h.1, h.2⟩⟩
  have e0 : Env0 P w K mg (hidT s₁.heap H) callerA [] s₁ H := ⟨rfl, M, fun b o e => of_hidT e, by rw [hidT_size]; exact Nat.le_refl _, trivial, fun b z => absurd z (by simp [frs]), hok, .of_eq hg⟩
  refine codeAny_mono ((F _ kb (ns' n1)).go callerA [] s₁ H ⟨[.ref a], []⟩ [.ref a] [.ref a] _ _ rfl hr e0 (hb s₁ _) (.cons rfl .nil) q) ?_
  rintro (er | (_ | _ | _ | u)) s' h
  · exact (hCX H er s' h).elim
  · exact False.elim h
  · exact False.elim h
  · exact False.elim h
  · obtain ⟨v, H', os, bare, un, hok', r, ev⟩ := h
    subst ev
    cases (show u = Value.bool true from r)
    refine ⟨rfl, OldK.of_keep fun b o e => ?_, os, bare⟩
    rcases hq : H b with _ | u
    · exact un.keep b o e hq (by simp [frs]) (by simp)
    · obtain ⟨_, _, ob, xs, rfl⟩ := hA b u hq
      have h1 := (hok b _ hq).1
      have h2 := (hok' b _ (un.frzs b ob _ hq)).1
      rw [e] at h1
      cases h1
      exact h2
theorem enter_law (KX : K.In s₁.heap) (n1 : s₁.heap.Ns mainGlobals mg) (n2 : s₁.heap.Ns builtinsNs mb) (bb : ∀ x : Str, x ≠ "__name__" → mb x = bootBuiltins x) (nl : s₁.heap.NoLimit) (hg : s₁.gens = #[]) (hr : Room k callerA)
    (obj : s₁.heap.get? a = some { cls := .type "list", data := .seq vs.toArray }) (hi : IntsAre vs ns) (hl : ns.length ≤ sizeLine)
    (F : ∀ base : Heap, K.In base → base.Ns mainGlobals mg → FnG P w K mg base CX k fa fd [x] sp) (hb : ∀ (s : Shared) (u : Value), BindsTo s fd ⟨[u], []⟩ [(x, u)])
    (q : ∀ H : Hp, ScrAt K H a ns → sp [.ref a] H (fun v _ => v = .bl true) fun _ _ _ => False) (hCX : ∀ H e s', CX [] H s₁ (fun _ _ _ => False) e s' → False) :
    codeAny (model P w) callerA (.call (.ref fa) ⟨[.ref a], []⟩) (fun r s' => r = .ok (.ret (.bool true)) ∧ OldK s₁.heap s'.heap ∧ s'.os = s₁.os ∧ AllBare s'.gens) s₁ := by
  have rv := vals_ints hi
  rcases hk : K.lookup a with _ | o
  · have at_a : (if a = a then some (HO.frz { cls := .type "list", data := .seq vs.toArray } (.lst (ns.map V.int))) else none) = some (HO.frz { cls := .type "list", data := .seq vs.toArray } (.lst (ns.map V.int))) := if_pos rfl
    refine enter_at (fun b => if b = a then some (.frz { cls := .type "list", data := .seq vs.toArray } (.lst (ns.map V.int))) else none) KX n1 n2 bb nl hg hr obj (fun b u z => ?_) (fun b u z => ?_) F hb (q _ (.inl ⟨_, at_a⟩)) hCX
    · by_cases hb' : b = a
      · subst hb'
        cases at_a.symm.trans z
        exact ⟨obj, by rw [List.length_map]; exact hl, vs, 0, rv, obj⟩
      · cases (if_neg hb').symm.trans z
    · by_cases hb' : b = a
      · subst hb'
        cases at_a.symm.trans z
        exact ⟨rfl, hk, _, _, rfl⟩
      · cases (if_neg hb').symm.trans z
  · have e := KX a o hk
    rw [obj] at e
    cases e
    refine enter_at (fun _ => none) KX n1 n2 bb nl hg hr obj (fun b u z => by cases z) (fun b u z => by cases z) F hb (q _ (.inr ⟨_, vs.toArray, _, hk, rfl, rfl, rfl, ?_, by simpa using rv⟩)) hCX
    rw [List.size_toArray, hi.length]
    exact hl
end
theorem walk_G {l : PySem.W.OpenLaw} {k : Nat} {q : Program} {loose : List Str} {XP : (Str → Option Value) → Heap → Prop} {YP : World → Heap → Prop} {d : DefRec} {CX : World → CXT} {x : Str} (hn : l.most = some 63) (hdf : d.params.defaults = []) (hr : Room k callerA)
    (F : ∀ (w : World) (mg : Str → Option Value) (fa : Addr) (h : Heap), YP w h → h.Ns mainGlobals mg → mg d.name = some (.ref fa) → ∃ (K : PySem.W.Frag) (fd : FuncData) (sp : Sp), K.In h ∧ (∀ (s : Shared) (u : Value), BindsTo s fd ⟨[u], []⟩ [(x, u)]) ∧
      (∀ (H : Hp) (a : Addr) (ns : List Int), ns.length ≤ 63 → (∀ z ∈ ns, Builtin.Int.intBits z ≤ 1048576) → ScrAt K H a ns → sp [.ref a] H (fun v _ => v = .bl true) fun _ _ _ => False) ∧
        ∀ base : Heap, K.In base → base.Ns mainGlobals mg → FnG l.prog w K mg base (CX w) k fa fd [x] sp)
    (hCX : ∀ (w : World) (H : Hp) (s : Shared) (e : Value) (s' : Shared), CX w [] H s (fun _ _ _ => False) e s' → False) : PySem.W.WalkO q loose XP YP l.row.toRowW d [] (fun f vs => PySem.call f vs) := by
  refine Att.attach_callB hn hdf ?_
  intro w s₀ s₁ mg mb fa o pm cd doc a vs ns G Y ho hd hcd hmg hobj hints hlen hbits hg
  obtain ⟨K, fd, sp, KX, hb, hsp, hF⟩ := F w mg fa _ Y G.T.g hmg
  exact enter_law KX G.T.g G.T.b G.T.builtins G.T.nolimit hg hr hobj hints (Nat.le_trans hlen (by decide)) hF hb (fun H hS => hsp H a ns hlen hbits hS) fun H => hCX w H s₁

/-! ### the head's look: the facts of defs and classes, one more Bool, and that sys.modules stands where it stands -/
def frY (g : Addr → Option Obj) (n : Nat) : PySem.W.Frag := He.frG g (sysModules :: He.asD g n)
/-- sys.modules is written, and is no list -/
def SysOk (K : PySem.W.Frag) : Prop := ∃ o, K.lookup sysModules = some o ∧ o.cls ≠ .type "list"
def sysB (K : PySem.W.Frag) : Bool := match K.lookup sysModules with
  | some o => !decide (o.cls = .type "list")
  | none => false
theorem sysB_ok {K : PySem.W.Frag} (h : sysB K = true) : SysOk K := by
  unfold sysB at h
  rcases e : K.lookup sysModules with _ | o
  · rw [e] at h
    cases h
  · rw [e] at h
    exact ⟨o, e, of_decide_eq_false (by simpa using h)⟩
def obY (n : Nat) (fa : List He.Fa) (fn : List He.DefD) (ex : PySem.W.Frag → Bool) (g : Addr → Option Obj) : He.AlD × Bool := (He.obsD fa fn (frY g n), ex (frY g n) && sysB (frY g n))
structure SaysY (fa : List He.Fa) (fn : List He.DefD) (ex : PySem.W.Frag → Bool) (K : PySem.W.Frag) : Prop where
  d : He.SaysD fa fn K
  e : ex K = true
  m : SysOk K
def hookY (n : Nat) (fa : List He.Fa) (fn : List He.DefD) (ex : PySem.W.Frag → Bool) : PySem.W.Hook where
  α := He.AlD × Bool
  obs := fun s => obY n fa fn ex s.heap.get?
  val := fun _ => (He.valD fn, true)
  says := fun _ h => ∃ K : PySem.W.Frag, K.In h ∧ SaysY fa fn ex K
  of := fun _ _ e => ⟨_, He.frG_in, congrArg Prod.fst e, (He.ba (congrArg Prod.snd e)).1, sysB_ok (He.ba (congrArg Prod.snd e)).2⟩
  keeps := fun _ _ _ ⟨K, hK, c⟩ k => ⟨K, PySem.W.Frag.In.keeps hK k, c⟩
theorem obY_eq {n : Nat} {fa : List He.Fa} {fn : List He.DefD} {ex : PySem.W.Frag → Bool} {g : Addr → Option Obj} {s : Shared} (h : ∀ a, g a = s.heap.get? a) : obY n fa fn ex g = (hookY n fa fn ex).obs s := by
  have e : g = s.heap.get? := funext h
  rw [e]
  rfl
end Gx

namespace Gx
open PySem PySem.Spec PyProof.Rows L2

/-! ### data of any depth, dicts too -/
def kD : Key → PyData
  | .inl i => .int i
  | .inr x => .str x
mutual
inductive Dq (K : PySem.W.Frag) (H : Hp) : V → PyData → Prop
  | non : Dq K H .non .none
  | bl (b : Bool) : Dq K H (.bl b) (.bool b)
  | int (i : Int) : Dq K H (.int i) (.int i)
  | str (x : Str) : Dq K H (.str x) (.str x)
  | lst {a : Addr} {xs : List V} {ds : List PyData} : SqL K H a xs → DqAll K H xs ds → Dq K H (.ref a) (.list ds)
  | tup {a : Addr} {xs : List V} {ds : List PyData} : SqT K H a xs → DqAll K H xs ds → Dq K H (.ref a) (.tuple ds)
  | dic {a : Addr} {kvs : List (Key × V)} {ds : List PyData} : H a = some (.dK kvs) → DqAll K H (kvs.map (·.2)) ds → Dq K H (.ref a) (.dict ((kvs.map fun p => kD p.1).zip ds))
inductive DqAll (K : PySem.W.Frag) (H : Hp) : List V → List PyData → Prop
  | nil : DqAll K H [] []
  | cons {v : V} {vs : List V} {d : PyData} {ds : List PyData} : Dq K H v d → DqAll K H vs ds → DqAll K H (v :: vs) (d :: ds)
end
theorem DqAll.length {K : PySem.W.Frag} {H : Hp} : ∀ {vs : List V} {ds : List PyData}, DqAll K H vs ds → vs.length = ds.length
  | [], _, h => by cases h; rfl
  | _ :: _, _, h => by
    cases h with
    | cons _ h2 => simp [DqAll.length h2]
theorem zip_fst {α β : Type} : ∀ {xs : List α} {ys : List β}, xs.length = ys.length → (xs.zip ys).map (·.1) = xs
  | [], _, _ => rfl
  | x :: xs, [], h => by simp at h
  | x :: xs, y :: ys, h => by simp [zip_fst (xs := xs) (ys := ys) (by simpa using h)]
theorem zip_snd {α β : Type} : ∀ {xs : List α} {ys : List β}, xs.length = ys.length → (xs.zip ys).map (·.2) = ys
  | [], ys, h => by cases ys <;> simp at h ⊢
  | x :: xs, [], h => by simp at h
  | x :: xs, y :: ys, h => by simp [zip_snd (xs := xs) (ys := ys) (by simpa using h)]
theorem reads_key {h : Heap} {k : Key} {v : Value} (e : keyIs k v = true) : Reads h v (kD k) [] := by
  rcases keyIs_shape e with ⟨i, t, rfl, rfl⟩ | ⟨x, t, rfl, rfl⟩
  · exact .int i t
  · exact .str x t
theorem reads_keys {P : Program} {w : World} {h : Heap} : ∀ {es : List DictEntry} {kvs : List (Key × Value)}, PySem.Pairs (mixKind P w) es kvs → ReadsAll h (es.map (·.key)) (kvs.map fun p => kD p.1) []
  | _, _, .nil => .nil
  | _, _, .cons e _ t => .cons (as := []) (bs := []) (reads_key e) (reads_keys t)
theorem pairs_vals {P : Program} {w : World} : ∀ {es : List DictEntry} {kvs : List (Key × Value)}, PySem.Pairs (mixKind P w) es kvs → es.map (·.val) = kvs.map (·.2)
  | _, _, .nil => rfl
  | _, _, .cons _ e t => by simp [e, pairs_vals t]
theorem kv_snd {kvs : List (Key × V)} {vs : List (Key × Value)} (r : KV kvs vs) : Vals (kvs.map (·.2)) (vs.map (·.2)) := by
  unfold KV at r
  induction r with
  | nil => exact .nil
  | cons h _ ih => exact .cons h.2 ih
theorem kv_fst {kvs : List (Key × V)} {vs : List (Key × Value)} (r : KV kvs vs) : kvs.map (fun p => kD p.1) = vs.map (fun p => kD p.1) := by
  unfold KV at r
  induction r with
  | nil => rfl
  | cons h _ ih => simp only [List.map_cons, h.1, ih]
section
variable {X : Cx} {pins : List (Addr × Obj)} {σ : L2.St} {H : Hp} {s : Shared}
theorem sys_free (I : Inv X pins σ H s) (hS : SysOk X.K) : H sysModules = none := by
  obtain ⟨o, ho, _⟩ := hS
  exact (I.bs _ o (I.ok.mod.kin _ _ ho)).2
theorem ne_sys (I : Inv X pins σ H s) (hS : SysOk X.K) {a : Addr} {o : HO} (h : H a = some o) : a ≠ sysModules := fun z => by
  rw [z, sys_free I hS] at h
  cases h
mutual
theorem Dq.reads (I : Inv X pins σ H s) (hS : SysOk X.K) : ∀ {v : V} {d : PyData} {u : Value}, Dq X.K H v d → RelV v u → ∃ as, sysModules ∉ as ∧ Reads s.heap u d as
  | _, _, _, .non, r => by cases r; exact ⟨_, by simp, .none⟩
  | _, _, _, .bl b, r => by cases r; exact ⟨_, by simp, .bool b⟩
  | _, _, _, .int i, r => by obtain ⟨t, rfl⟩ := r; exact ⟨_, by simp, .int i t⟩
  | _, _, _, .str x, r => by obtain ⟨t, rfl⟩ := r; exact ⟨_, by simp, .str x t⟩
  | _, _, _, .lst (a := a) hs ha, r => by
    cases r
    obtain ⟨its, rv, ⟨o, n, ho, hc, _, hd⟩, _⟩ := I.list hs
    obtain ⟨as, h0, hr⟩ := DqAll.reads I hS ha rv
    refine ⟨_, ?_, Reads.list ho hc hd hr⟩
    rw [List.mem_cons]
    rintro (z | z)
    · rcases hs with (q | ⟨_, q⟩) | ⟨o', _, _, q, qc, _⟩
      · exact ne_sys I hS q z.symm
      · exact ne_sys I hS q z.symm
      · rw [← z] at q
        obtain ⟨o2, q2, nl⟩ := hS
        rw [q] at q2
        cases q2
        exact nl qc
    · exact h0 z
  | _, _, _, .tup hs ha, r => by
    cases r
    obtain ⟨its, rv, ⟨o, ho, hc, n, hd⟩, _⟩ := I.tuple hs
    obtain ⟨as, h0, hr⟩ := DqAll.reads I hS ha rv
    exact ⟨_, h0, Reads.tuple ho hc hd hr⟩
  | _, _, _, .dic (a := a) (kvs := kvs) e ha, r => by
    cases r
    obtain ⟨_, hm, vs, rv, o, es, ep, ho, hx, hd, _, hp, _⟩ := (show ObjOk X.prog X.w H s.heap a (.dK kvs) from I.hok a _ e)
    obtain ⟨as, h0, hr⟩ := DqAll.reads I hS ha (kv_snd rv)
    have hl := ha.length
    rw [List.length_map] at hl
    replace hl := (List.length_map (as := kvs) (f := fun p => kD p.1)).trans hl
    refine ⟨a :: [] ++ as, ?_, Reads.dict ho hx.1 hd ?_ ?_⟩
    · intro z
      rcases List.mem_cons.mp z with z | z
      · rw [← z] at hm
        exact absurd hm (by decide)
      · exact h0 z
    · rw [zip_fst hl, kv_fst rv]
      exact reads_keys hp
    · rw [zip_snd hl, pairs_vals hp]
      exact hr
theorem DqAll.reads (I : Inv X pins σ H s) (hS : SysOk X.K) : ∀ {vs : List V} {ds : List PyData} {us : List Value}, DqAll X.K H vs ds → Vals vs us → ∃ as, sysModules ∉ as ∧ ReadsAll s.heap us ds as
  | _, _, _, .nil, r => by cases r; exact ⟨_, by simp, .nil⟩
  | _, _, _, .cons h1 h2, r => by
    cases r with
    | cons r1 r2 =>
      obtain ⟨as, n1, q1⟩ := Dq.reads I hS h1 r1
      obtain ⟨bs, n2, q2⟩ := DqAll.reads I hS h2 r2
      refine ⟨_, ?_, .cons q1 q2⟩
      rw [List.mem_append]
      exact fun z => z.elim n1 n2
end
end
end Gx

namespace Gx
open PySem PySem.Spec PyProof.Rows L2

/-! ### repr -/
section
variable {X : Cx}
def rRepr (K : PySem.W.Frag) : List V → Hp → VK → Prop := fun xs H Q => ∃ x d, xs = [x] ∧ Dq K H x d ∧ d.showable = true ∧ d.depth ≤ 60 ∧ d.shown.length ≤ sizeLine ∧ Q (.str d.shown) H
theorem call_repr (hS : SysOk X.K) (hg : X.A.guards = some []) (hu : X.A.units + 64 < cLine) : CallR X (.builtin "repr") (rRepr X.K) := by
  intro pins s σ H xs us Q I r h
  obtain ⟨x, d, rfl, hd, hs, hdep, hz, q⟩ := h
  obtain ⟨u, rfl, ru⟩ := vals1 r
  have fin : ∀ (h' : Heap) (t : Tok) (tk : Nat), (∀ b o, s.heap.get? b = some o → h'.get? b = some o) → EP X pins σ Q (.str d.shown t) { s with heap := h', toks := tk } := fun h' t tk k => ⟨.str d.shown, H, I.kept k, ⟨t, rfl⟩, q⟩
  cases hd with
  | non => cases ru; simp only [PyData.shown] at fin; exact PySem.P.repr_of_none (fin s.heap _ _ fun _ _ e => e)
  | bl b => cases ru; simp only [PyData.shown] at fin; exact PySem.P.repr_of_bool (fin s.heap _ _ fun _ _ e => e)
  | int i =>
    obtain ⟨t, rfl⟩ := ru
    simp only [PyData.shown] at fin
    exact PySem.P.repr_of_int (by simpa [PyData.showable] using hs) (fin s.heap _ _ fun _ _ e => e)
  | str y =>
    obtain ⟨t, rfl⟩ := ru
    simp only [PyData.shown] at fin hz
    exact PySem.P.repr_of_str (fin s.heap _ _ fun _ _ e => e) hz
  | @lst a ys ds h1 h2 =>
    obtain ⟨as, n, rd⟩ := Dq.reads I hS (.lst h1 h2) ru
    cases ru
    exact repr_of_reads' rd hs (fun _ => n) hg (by omega) (fun _ _ e => e) (fun h' t tk k => fin h' t tk k) hz
  | @tup a ys ds h1 h2 =>
    obtain ⟨as, n, rd⟩ := Dq.reads I hS (.tup h1 h2) ru
    cases ru
    exact repr_of_reads' rd hs (fun _ => n) hg (by omega) (fun _ _ e => e) (fun h' t tk k => fin h' t tk k) hz
  | @dic a kvs ds h1 h2 =>
    obtain ⟨as, n, rd⟩ := Dq.reads I hS (.dic h1 h2) ru
    cases ru
    exact repr_of_reads' rd hs (fun _ => n) hg (by omega) (fun _ _ e => e) (fun h' t tk k => fin h' t tk k) hz
end

/-! ### an exception of an own class as a value: made, by place and by name; asked for its class; its field read -/
/-- at a: an exception of the class at C whose one field f holds v; d is its dict -/
def ExV (H : Hp) (a C : Addr) (f : Str) (v : V) : Prop := ∃ d, H a = some (exo a C (some d)) ∧ H d = some (exd d [(f, v)])
theorem ExV.mono {H H' : Hp} {a C : Addr} {f : Str} {v : V} (k : ∀ b o, H b = some o → H' b = some o) (h : ExV H a C f v) : ExV H' a C f v := by
  obtain ⟨d, h1, h2⟩ := h
  exact ⟨d, k _ _ h1, k _ _ h2⟩
/-- the promise of such an __init__(self, f): self.f = f -/
def spExI (C : Addr) (f : Str) : Sp := fun vs H Q _ => ∃ (a : Addr) (v : V), vs = [.ref a, v] ∧ H a = some (exo a C none) ∧ ∀ d, H d = none → d ≠ a → Q .non (upd (upd H d (exd d [(f, v)])) a (exo a C (some d)))

end Gx
namespace GxE
open PySem PySem.W PySem.HandSPX PySem.Calls
section
variable {prog : Program} {w : World} {A : Around} {E : Value → Shared → Prop} {R : Result → Shared → Prop} {hp : Heap} {gn : Array GenState} {dr : Drawn} {tk : Nat} {os : OsState}
variable {nm q : Str} {C N fI : Addr} {bs bm tl : List Value} {hdct ab : Bool} {sn : List Str} {sub : List Value} {col : Option Bool} {dd : Option Addr} {k0 k1 k2 k3 k5 : Option Value} {B nI iI : String} {xs : List Value} {kw : List (Str × Value)}
/-- what BaseException.__new__ leaves: the tuple of the positional values, the exception -/
abbrev laidE (hp : Heap) (C : Addr) (xs : List Value) : Heap := (hp.push (kdv_tup xs)).push (excO C hp.objs.size)
theorem newK (F : ExcBaseFacts B nI iI tl) (eq : ∀ Y : String, bm.contains (.type Y) = tl.contains (.type Y)) (at_C : hp.get? C = some (excClassObj nm q C N bs bm hdct sn sub ab col dd k0 k1 k2 k3 k5 nI)) (fit : xs.length ≤ sizeLine)
    (post : R (.ok (.ret (.ref (hp.objs.size + 1)))) ⟨laidE hp C xs, gn, dr, tk, os⟩) : codeAny (model prog w) A (.builtin nI ⟨.ref C :: xs, kw⟩) R ⟨hp, gn, dr, tk, os⟩ := by
  have z0 := F.ends
  have zB : (Value.ref C :: bm).contains (.type B) = true := by rw [List.contains_cons, eq, F.hasB, Bool.or_true]
  have zA : (Value.ref C :: bm).contains (.type "AttributeError") = false := by rw [List.contains_cons, eq, F.noAttr]; rfl
  have zN : (Value.ref C :: bm).contains (.type "NameError") = false := by rw [List.contains_cons, eq, F.noName]; rfl
  apply codeAny_builtinAt F.entry
  unfold Builtin.«BaseException.__new__»
  refine wpAt_bind ?_
  show wpAt _ _ _ (stack >>= _) _ _ _
  refine wpAt_bind (wpAt_stack fun p below => wpAt_of_wpAny ?_)
  wp_walk
  refine wpAt_of_wpAny ?_
  rw [F.owner]
  repeat (first
    | with_reducible refine wpAny_madeHere_exc F.canon at_C ?_
    | with_reducible refine wpAny_loadPart_at at_C ?_
    | (with_reducible refine wpAny_isSubtype_exc at_C ?_; first | rw [zB] | rw [zA] | rw [zN])
    | wp_step)
  show R _ _
  rw [Heap.size_push]
  exact post
theorem checkNewK (F : ExcBaseFacts B nI iI tl) (eq : ∀ Y : String, bm.contains (.type Y) = tl.contains (.type Y)) (at_C : hp.get? C = some (excClassObj nm q C N bs bm hdct sn sub ab col dd k0 k1 k2 k3 k5 nI)) {Q : Unit → Shared → Prop}
    (post : Q () ⟨hp, gn, dr, tk, os⟩) : wpAny (model prog w) A (checkBuiltinCall nI ⟨.ref C :: xs, kw⟩) Q E ⟨hp, gn, dr, tk, os⟩ := by
  have zB : (Value.ref C :: bm).contains (.type B) = true := by rw [List.contains_cons, eq, F.hasB, Bool.or_true]
  have z0 := F.noStar
  simp only [checkBuiltinCall, F.newKind, F.newSplit, F.newRow]
  repeat (first
    | refine wpAny_loadPart_at at_C ?_
    | (refine wpAny_isSubtype_exc at_C ?_; rw [zB])
    | refine wpAny_staticBase_exc at_C ?_
    | refine wpAny_madeBy_exc at_C ?_
    | simp only [bne_self_eq_false, Bool.false_eq_true, if_false]
    | wp_step)
  exact post
end
end GxE

namespace GxE
open PySem PySem.W PySem.HandSPX PySem.Calls
section
variable {prog : Program} {w : World} {A : Around} {E : Value → Shared → Prop} {R : Result → Shared → Prop} {hp : Heap} {gn : Array GenState} {dr : Drawn} {tk : Nat} {os : OsState}
variable {nm q : Str} {C N fI : Addr} {bs bm tl : List Value} {hdct ab : Bool} {sn : List Str} {sub : List Value} {col : Option Bool} {dd : Option Addr} {k0 k1 k2 k3 k5 : Option Value} {B nI iI : String} {xs : List Value} {kw : List (Str × Value)}
theorem checkTypeK (at_C : hp.get? C = some (excClassObj nm q C N bs bm hdct sn sub ab col dd k0 k1 k2 k3 k5 nI)) {Q : Unit → Shared → Prop} (post : Q () ⟨hp, gn, dr, tk, os⟩) :
    wpAny (model prog w) A (checkBuiltinCall "type.__call__" ⟨.ref C :: xs, kw⟩) Q E ⟨hp, gn, dr, tk, os⟩ := by
  have z3 := tc_sub
  have ty : (⟨hp, gn, dr, tk, os⟩ : Shared).TypeIs (.ref C) "type" := ⟨_, at_C, rfl⟩
  simp only [checkBuiltinCall, tc_kind, tc_split]
  repeat (any_goals (first
    | assumption
    | with_reducible refine wpAny_loadPart_at at_C ?_
    | with_reducible refine wpAny_onRaise ?_
    | with_reducible refine wpAny_map ?_
    | wp_step))
theorem typeCallK (F : ExcBaseFacts B nI iI tl) (eq : ∀ Y : String, bm.contains (.type Y) = tl.contains (.type Y)) (at_C : hp.get? C = some (excClassObj nm q C N bs bm hdct sn sub ab col dd k0 k1 k2 k3 k5 nI)) (fit : xs.length ≤ sizeLine)
    (li : Looks (model prog w) hp (typeLookup (.ref C) "__init__") (some (.ref fI))) (lb : ∀ self, Looks (model prog w) hp (bindSpecial (.ref fI) self) (.ref fI, [self])) {Q : Fin → Shared → Prop}
    (run : codeAny (model prog w) A (.call (.ref fI) ⟨.ref (hp.objs.size + 1) :: xs, kw⟩)
      (fun r s' => match r with | .ok (.ret v) => v = .none ∧ Q (.done (.ret (.ref (hp.objs.size + 1)))) s' | .ok _ => False | .error e => E e s') ⟨laidE hp C xs, gn, dr, tk, os⟩) :
    wpAny (model prog w) A (Builtin.«type.__call__» ⟨.ref C :: xs, kw⟩) Q E ⟨hp, gn, dr, tk, os⟩ := by
  repeat (first
    | with_reducible refine wpAny_loadPart_at at_C ?_
    | with_reducible refine wpAny_madeBy_exc at_C ?_
    | wp_step)
  refine codeAny_call_builtin_code (Code.quiet_builtin _ F.quiet) (checkNewK F eq at_C (newK F eq at_C fit ?_))
  show wpAny _ _ _ _ _ _
  have more : ∀ b o, hp.get? b = some o → (laidE hp C xs).get? b = some o := fun b o e => Heap.get?_push_of_some _ (Heap.get?_push_of_some _ e)
  have at_C2 := more _ _ at_C
  have at_e : (laidE hp C xs).get? (hp.objs.size + 1) = some (excO C hp.objs.size) := by heap_get
  have zC : (Value.ref C :: bm).contains (.ref C) = true := by simp
  have li2 := li.keeps more
  have lb2 := (lb (.ref (hp.objs.size + 1))).keeps more
  unfold isInstance
  repeat (first
    | with_reducible refine wpAny_loadPart_at at_e ?_
    | (with_reducible refine wpAny_isSubtype_exc at_C2 ?_; rw [zC])
    | wp_step)
  show wpAny _ _ (typeLookup (.ref C) _) _ _ _
  refine li2.at (wpAny_holding (wpAny_bind (lb2.at ?_)))
  apply wpAny_bind
  apply wpAny_call
  refine codeAny_mono run ?_
  rintro (e | (_ | _ | _ | v)) s' z
  · exact z
  · exact z.elim
  · exact z.elim
  · exact z.elim
  · obtain ⟨rfl, z⟩ := z
    first
      | exact wpAny_pure (wpAny_pure z)
      | (wp_walk; exact z)
theorem callK (F : ExcBaseFacts B nI iI tl) (eq : ∀ Y : String, bm.contains (.type Y) = tl.contains (.type Y)) (at_C : hp.get? C = some (excClassObj nm q C N bs bm hdct sn sub ab col dd k0 k1 k2 k3 k5 nI)) (fit : xs.length ≤ sizeLine)
    (li : Looks (model prog w) hp (typeLookup (.ref C) "__init__") (some (.ref fI))) (lb : ∀ self, Looks (model prog w) hp (bindSpecial (.ref fI) self) (.ref fI, [self]))
    (run : codeAny (model prog w) (A.under (.builtin "type.__call__" ⟨.ref C :: xs, kw⟩)) (.call (.ref fI) ⟨.ref (hp.objs.size + 1) :: xs, kw⟩) (InitBack (hp.objs.size + 1) R) ⟨laidE hp C xs, gn, dr, tk, os⟩) :
    codeAny (model prog w) A (.call (.ref C) ⟨xs, kw⟩) R ⟨hp, gn, dr, tk, os⟩ := by
  have z1 := tc_lookup
  have z2 := tc_bind (.ref C)
  have ty : (⟨hp, gn, dr, tk, os⟩ : Shared).TypeIs (.ref C) "type" := ⟨_, at_C, rfl⟩
  apply codeAny_of_tree
  show wpAny _ _ (callAny (.ref C) _) _ _ _
  repeat (any_goals (first
    | assumption
    | with_reducible refine wpAny_loadPart_at at_C ?_
    | wp_step))
  refine ⟨rfl, codeAny_call_builtin_at (Code.quiet_builtin _ (by decide +kernel)) entry_typeCall (checkTypeK at_C (typeCallK F eq at_C fit li lb (codeAny_mono run ?_)))⟩
  rintro (e | (_ | _ | _ | v)) s' z <;> exact z
end
end GxE

namespace Gx
open PySem PySem.Spec PyProof.Rows L2
/-- C(e) of an own exception class whose __init__ keeps its one argument in the field f -/
def rExV (C : Addr) (f : Str) : List V → Hp → VK → Prop := fun vs H Q => ∃ v, vs = [v] ∧ ∀ a d, H a = none → H d = none → d ≠ a → Q (.ref a) (upd (upd H d (exd d [(f, v)])) a (exo a C (some d)))
/-- what is known of such a class -/
structure ExK (P : Program) (w : World) (K : PySem.W.Frag) (mg : Str → Option Value) (base : Heap) (x : Str) (C : Addr) (f : Str) (fI : Addr) (fd : FuncData) : Prop where
  T : OexC K C
  i : PySem.W.findIn K (.ref C) "__init__" = some (some (.ref fI))
  t : PySem.W.typeIn K (.ref fI) = some (.type "function")
  F : FnOk P w K mg base CX0 1 fI fd ["self", f] (spExI C f)
  b : Binds K fd ["self", f] []
  kb : KBn K fd ["self", f] 1 [f] (fun us ws => us ++ ws) (fun vs zs => vs ++ zs)
  g : mg x = some (.ref C)
theorem kb_one {K : PySem.W.Frag} {x qual : Str} {params : Arguments} {body : List Stmt} {scope : Scope} {kws : List (Str × V)} {f : Addr} {fd : FuncData} {ps : List Str} {n : Str} (D : FunD K x qual params body scope [] kws f fd)
    (h : ∀ (kV doc pm : Value) (an : Option Addr) (cdv ct u v : Value), bindArgs (PySem.W.fnOf x qual params body scope .none kV doc pm an cdv ct) ⟨[u], [(n, v)]⟩ = pure (ps.zip [u, v])) : KBn K fd ps 1 [n] (fun us ws => us ++ ws) (fun vs zs => vs ++ zs) := by
  obtain ⟨oc, od, dV, kV, doc, pm, an, cdv, ct, osl, rfl, lk, hcd, hD, hK⟩ := D.ex
  rcases hD with ⟨_, rfl⟩ | ⟨e, _⟩
  · refine ⟨fun s us ws _ h1 h2 => ?_, fun a b => a.append b⟩
    match us, h1 with
    | [u], _ =>
      match ws, h2 with
      | [v], _ => exact .of_eq (h kV doc pm an cdv ct u v)
  · exact absurd rfl e
section
variable {X : Cx} {x : Str} {C fI : Addr} {fd : FuncData} {f : Str} {e : Expr} {te : TE} {p pos kp : Pos}
theorem run_exV {pins : List (Addr × Obj)} {σ : L2.St} {H : Hp} {s : Shared} {Q : VK} {us : List Value} {kw : List (Str × Value)} {v : V} {u : Value} (Z : ExK X.prog X.w X.K X.mg X.base x C f fI fd) (hr : Room 2 X.A) (I : Inv X pins σ H s) (fit : us.length ≤ sizeLine) (rv : RelV v u)
    (hb : ∀ (s : Shared) (a : Addr), X.K.In s.heap → BindsTo s fd ⟨.ref a :: us, kw⟩ ((["self", f] : List Str).zip [Value.ref a, u]))
    (h : ∀ a d, H a = none → H d = none → d ≠ a → Q (.ref a) (upd (upd H d (exd d [(f, v)])) a (exo a C (some d)))) :
    wpAny (model X.prog X.w) X.A (call (.ref C) us kw) (EP X pins σ Q) X.xe s := by
  obtain ⟨nm, q, N, bs, bm, sn, sub, ab, col, dd, k0, k1, k2, k3, k5, hC, hbm⟩ := Z.T.cls
  obtain ⟨hp, g, dr, tk, os⟩ := s
  have hsz : hp.objs.size ≤ hp.objs.size + 1 := Nat.le_succ _
  have nA : H (hp.objs.size + 1) = none := I.hok.fresh hsz
  have more : ∀ b o, hp.get? b = some o → (GxE.laidE hp C us).get? b = some o := fun b o e => Heap.get?_push_of_some _ (Heap.get?_push_of_some _ e)
  have at_e : (GxE.laidE hp C us).get? (hp.objs.size + 1) = some (PySem.HandSPX.excO C hp.objs.size) := by heap_get
  have I2 : Inv X pins σ (upd H (hp.objs.size + 1) (exo (hp.objs.size + 1) C none)) ⟨GxE.laidE hp C us, g, dr, tk, os⟩ :=
    I.laid (t' := tk) (a := hp.objs.size + 1) (o := exo (hp.objs.size + 1) C none) (h' := GxE.laidE hp C us) more hsz (exo_ok at_e)
  have sp : spExI C f [.ref (hp.objs.size + 1), v] (upd H (hp.objs.size + 1) (exo (hp.objs.size + 1) C none)) (fun r H2 => r = .non ∧ Q (.ref (hp.objs.size + 1)) H2) (fun _ _ _ => False) := by
    refine ⟨_, v, rfl, upd_same, fun d hd ne => ⟨rfl, ?_⟩⟩
    have hd2 : H d = none := by rwa [upd_ne ne] at hd
    have e : upd (upd (upd H (hp.objs.size + 1) (exo (hp.objs.size + 1) C none)) d (exd d [(f, v)])) (hp.objs.size + 1) (exo (hp.objs.size + 1) C (some d)) = upd (upd H d (exd d [(f, v)])) (hp.objs.size + 1) (exo (hp.objs.size + 1) C (some d)) := by
      funext b
      unfold upd
      repeat' split
      all_goals first | rfl | contradiction
    rw [e]
    exact h _ d nA hd2 ne
  refine wpAny_call (GxE.callK F.excBase_ValueError (fun Y => PySem.HandSPX.refsVE_contains Y bm hbm) (I.kIn _ _ hC) fit (PySem.W.looks_findIn I.kIn Z.i) (fun self => PySem.W.bind_fn I.kIn self Z.t)
    (codeAny_mono (Z.F.run _ X.stack _ _ _ [Value.ref (hp.objs.size + 1), u] [.ref (hp.objs.size + 1), v] _ _ (hr.make C us kw) (I2.env0.make C us kw) (hb _ _ I2.kIn) (.cons rfl (.cons rv .nil)) sp) ?_))
  rintro (er | (_ | _ | _ | z)) s' hq
  · exact False.elim hq
  · exact False.elim hq
  · exact False.elim hq
  · exact False.elim hq
  · obtain ⟨r, H', J, rr, er, q2⟩ := I2.after hq
    subst er
    exact ⟨rr, ⟨V.ref (hp.objs.size + 1), H', J, rfl, q2⟩⟩
variable {t tk : TA} {kws : List Keyword}
theorem pe_exV (Z' : ∃ fI fd, ExK X.prog X.w X.K X.mg X.base x C f fI fd) (hr : Room 2 X.A) (hg : Gl X x) (ha : PA X [e] t) (hdb : (x == ("__debug__" : Str)) = false := by decide) (he : starEach [e] X.env = (false, eval e X.env) :: starEach [] X.env := by rfl) (hpl : (backTo pos (starEach [] X.env)).any (·.1) = false := by rfl) :
    PE X (.Call (.Name x p) [e] [] pos) (tCB (rExV C f) t) := by
  obtain ⟨fI, fd, Z⟩ := Z'
  constructor
  intro pins s σ H Q I h
  refine wpAny_Call_Name_kw (ld_glob I hg Z.g ?_ hdb)
  refine PySem.W.callWith_K (h₀ := X.base) I.ok.mod.kin Z.T.kC (thn (ha.run pos pins s σ H _ I h) ?_) he hpl
  rintro us s1 ⟨vs, H1, I1, r, v, rfl, q⟩
  obtain ⟨u, rfl, ru⟩ := vals1 r
  exact ⟨I1.kIn, run_exV Z hr I1 (by rw [sizeLine_eq]; show 1 ≤ _; omega) ru (fun s a X => Z.b s [.ref a, u] X rfl) q⟩
theorem pe_exK (Z' : ∃ fI fd, ExK X.prog X.w X.K X.mg X.base x C f fI fd) (hr : Room 2 X.A) (hg : Gl X x) (hkw : PK X kws tk) (hall : (backToKw pos (keywordEach kws X.env)).all (·.1.isSome) = true := by rfl) (hks : (backToKw pos (keywordEach kws X.env)).filterMap (·.1) = [f] := by rfl)
    (hdb : (x == ("__debug__" : Str)) = false := by decide) (hpl : ((backTo pos (starEach [] X.env)).any (·.1) || (backToKw pos (keywordEach kws X.env)).any (·.1.isNone)) = false := by rfl) :
    PE X (.Call (.Name x p) [] kws pos) (tCB (rExV C f) tk) := by
  obtain ⟨fI, fd, Z⟩ := Z'
  constructor
  intro pins s σ H Q I h
  refine wpAny_Call_Name_kw (ld_glob I hg Z.g ?_ hdb)
  refine PySem.W.callWith_KW0 (h₀ := X.base) I.ok.mod.kin Z.T.kC hall (thn (hkw.run pos pins s σ H _ I h) ?_) hpl
  rintro us s1 ⟨vs, H1, I1, r, v, rfl, q⟩
  obtain ⟨u, rfl, ru⟩ := vals1 r
  rw [hks]
  exact ⟨I1.kIn, run_exV Z hr I1 (by show 0 ≤ _; omega) ru (fun s a X => Z.kb.to s [.ref a] [u] X rfl rfl) q⟩
end

/-! ### isinstance of such a value; its field -/

/-! ### isinstance of such a value; its field -/
/-- isinstance(x, c), x such an exception -/
def rIsX (K : PySem.W.Frag) : List V → Hp → VK → Prop := fun xs H Q => ∃ (a D d : Addr) (fs : List (Str × V)) (c : V) (cv : Value) (b : Bool), xs = [.ref a, c] ∧ H a = some (exo a D (some d)) ∧ H d = some (exd d fs) ∧ ExcC K D ∧ (∀ u, RelV c u → u = cv) ∧
  PySem.W.kitOne K (.ref D) cv = some b ∧ Q (.bl b) H
theorem exo_inst {P : Program} {w : World} {H : Hp} {h : Heap} {a D d : Addr} {fs : List (Str × V)} (hok : HOk P w H h) (ha : H a = some (exo a D (some d))) (hd : H d = some (exd d fs)) :
    ∃ (ox od : Obj) (mA : Str → Option Value), PySem.W.InstAt h a ox D (some od) ∧ (∀ n, PySem.W.lookIn n od = some (mA n)) ∧ ∀ f, RelO (fs.lookup f) (mA f) := by
  obtain ⟨t, e⟩ := exo_at hok ha
  obtain ⟨mA, ns, r⟩ := exd_at hok hd
  obtain ⟨od, ho, hl⟩ := lookIn_ns ns
  exact ⟨_, od, mA, ⟨e, rfl, rfl, ho⟩, hl, r⟩
theorem call_isX {X : Cx} : CallR X (.builtin "isinstance") (rIsX X.K) := by
  intro pins s σ H xs us Q I r h
  obtain ⟨a, D, d, fs, c, cv, b, rfl, ha, hd, C, hc, e, q⟩ := h
  obtain ⟨u, z, rfl, ru, rz⟩ := vals2 r
  cases (show u = Value.ref a from ru)
  cases hc _ rz
  obtain ⟨ox, od, mA, hI, _, _⟩ := exo_inst I.hok ha hd
  obtain ⟨cd, hcd, _⟩ := PySem.W.any_some C.hd
  exact PySem.W.kia_one (PySem.W.kitx_exc (by rw [hcd]; rfl) C.hg C.hk C.hs C.ha C.hn C.ht C.hm) I.kIn hI e (fun z => nomatch z) fun tk => ⟨.bl b, H, I.kept (t' := tk) fun _ _ z => z, rfl, q⟩
/-- x.f of such an exception -/
def tExF (K : PySem.W.Frag) (f : Str) (te : TE) : TE := fun σ H Q => te σ H fun x H1 => ∃ (a D d : Addr) (fs : List (Str × V)) (v : V), x = .ref a ∧ H1 a = some (exo a D (some d)) ∧ H1 d = some (exd d fs) ∧ XfC K D ∧ PySem.W.findIn K (.ref D) f = some none ∧ fs.lookup f = some v ∧ Q v H1
theorem pe_exF {X : Cx} {K : PySem.W.Frag} {f : Str} {e : Expr} {te : TE} {pos : Pos} (hK : X.K = K) (he : PE X e te) (hb : attributeBase e f X.env (eval e X.env) = eval e X.env := by rfl) : PE X (.Attribute e f pos) (tExF K f te) := by
  subst hK
  constructor
  intro pins s σ H Q I h
  refine attr_of hb (thn (he.run pins s σ H _ I h) ?_)
  rintro u s1 ⟨x, H1, I1, rx, a, D, d, fs, v, rfl, ha, hd, T, hno, l, q⟩
  cases (show u = Value.ref a from rx)
  obtain ⟨ox, od, mA, hI, hl, r⟩ := exo_inst I1.hok ha hd
  obtain ⟨z, hz, rz⟩ := RelO.some_of (v := v) (o := mA f) (by rw [← l]; exact r f)
  exact PySem.HandSPX.exc_get I1.kIn hI T.ga T.gg T.exC (PySem.W.findObj_own T.hdC hno rfl (by rw [hl, hz])) (handed_of rz) ⟨v, H1, I1.tok _, rz, q⟩
end Gx

namespace Gx
open PySem PySem.Spec PyProof.Rows L2

theorem add_lt_pow {a b : Int} {k : Nat} (ha : a.natAbs < 2 ^ k) (hb : b.natAbs < 2 ^ k) : (a + b).natAbs < 2 ^ (k + 1) := by
  have h := Int.natAbs_add_le a b
  rw [Nat.pow_succ]
  omega
theorem bits_add {a b : Int} {k : Nat} (ha : Builtin.Int.intBits a ≤ k) (hb : Builtin.Int.intBits b ≤ k) : Builtin.Int.intBits (a + b) ≤ k + 1 := bits_of_lt (add_lt_pow (lt_of_bits ha) (lt_of_bits hb))
theorem bits_mono {a : Int} {j k : Nat} (h : Builtin.Int.intBits a ≤ j) (l : j ≤ k) : Builtin.Int.intBits a ≤ k := Nat.le_trans h l
/-! ### a def by its name, ready to be called -/
structure Ca (P : Program) (w : World) (K : PySem.W.Frag) (mg : Str → Option Value) (base : Heap) (CX : CXT) (k : Nat) (x : Str) (sp : Sp) : Prop where
  ex : ∃ f fd ps, FnOk P w K mg base CX k f fd ps sp ∧ Binds K fd ps [] ∧ mg x = some (.ref f) ∧ PySem.W.keepIn K (.ref f) = true
structure CaG (P : Program) (w : World) (K : PySem.W.Frag) (mg : Str → Option Value) (base : Heap) (CX : CXT) (k : Nat) (x : Str) (sp : Sp) : Prop where
  ex : ∃ f fd ps, FnG P w K mg base CX k f fd ps sp ∧ Binds K fd ps [] ∧ mg x = some (.ref f) ∧ PySem.W.keepIn K (.ref f) = true
section
variable {X : Cx} {CX : CXT} {k : Nat} {sp : Sp} {E : XK} {x : Str} {p pos : Pos} {e : Expr} {es : List Expr} {t : TA}
theorem pe_ca (c : Ca X.prog X.w X.K X.mg X.base CX k x sp) (hr : Room k X.A) (hg : Gl X x) (hx : Passes CX X E) (ha : PA X (e :: es) t) (hdb : (x == ("__debug__" : Str)) = false := by decide) (he : starEach (e :: es) X.env = (false, eval e X.env) :: starEach es X.env := by rfl)
    (hpl : (backTo pos (starEach es X.env)).any (·.1) = false := by rfl) : PE X (.Call (.Name x p) (e :: es) [] pos) (tCall sp [] E t) := by
  obtain ⟨f, fd, ps, F, hb, hm, hk⟩ := c.ex
  exact pe_call F hr hg hm hk hb .nil hx ha hdb he hpl
theorem pe_cg (c : CaG X.prog X.w X.K X.mg X.base CX k x sp) (hgd : X.A.guards = some []) (hr : Room k X.A) (hg : Gl X x) (hx : Passes CX X E) (ha : PA X (e :: es) t) (hdb : (x == ("__debug__" : Str)) = false := by decide)
    (he : starEach (e :: es) X.env = (false, eval e X.env) :: starEach es X.env := by rfl) (hpl : (backTo pos (starEach es X.env)).any (·.1) = false := by rfl) : PE X (.Call (.Name x p) (e :: es) [] pos) (tCall sp [] E t) := by
  obtain ⟨f, fd, ps, F, hb, hm, hk⟩ := c.ex
  exact pe_callG F hgd hr hg hm hk hb .nil hx ha hdb he hpl
end

/-! ### an own exception class over ValueError, by one Bool -/
def oexB (K : PySem.W.Frag) (C : Addr) : Bool := match K.lookup C with
  | some ⟨.type "type", _, .cls cd, sl⟩ => (match cd.mro, sl.toList with
    | .ref D :: bm, [_, _, _, _, some (.builtin n), _] => decide (D = C) && (decide (n = "ValueError.__new__") && (!cd.hasDel && (cd.hasDict && PySem.HandSPX.refsVE bm)))
    | _, _ => false)
  | _ => false
theorem oexB_ok {K : PySem.W.Frag} {C : Addr} (h : oexB K C = true) :
    ∃ nm q N bs bm sn sub ab col dd k0 k1 k2 k3 k5, K.lookup C = some (excClassObj nm q C N bs bm true sn sub ab col dd k0 k1 k2 k3 k5 "ValueError.__new__") ∧ PySem.HandSPX.refsVE bm = true := by
  unfold oexB at h
  split at h
  · rename_i dd cd sl ho
    split at h
    · rename_i D bm k0 k1 k2 k3 n k5 hm hs
      simp only [Bool.and_eq_true, decide_eq_true_eq, Bool.not_eq_true'] at h
      obtain ⟨rfl, rfl, hdel, hdct, hb⟩ := h
      obtain ⟨nm, bs, mro, ns, qn, hd, sn, sub, ab, col, del⟩ := cd
      obtain ⟨l⟩ := sl
      dsimp only at hm hdel hdct hs
      subst hm hdel hdct hs
      exact ⟨nm, qn, ns, bs, bm, sn, sub, ab, col, dd, k0, k1, k2, k3, k5, ho, hb⟩
    · cases h
  · cases h
/-- all that is asked of such a class x with its one field f -/
def exB (K : PySem.W.Frag) (x f : Str) : Bool :=
  oexB K (He.ga K x) && (decide (PySem.W.findIn K (.ref (He.ga K x)) "__setattr__" = some (some (.builtin "object.__setattr__"))) && (decide (PySem.W.subIn K (.ref (He.ga K x)) (.type "BaseException") = some true) && (decide (PySem.W.typeIn K (.ref (He.ga K x)) = some (.type "type")) &&
  (PySem.W.keepIn K (.ref (He.ga K x)) && (decide (PySem.W.findIn K (.ref (He.ga K x)) "__init__" = some (some (.ref (He.ma K (He.ga K x) "__init__")))) && (decide (PySem.W.typeIn K (.ref (He.ma K (He.ga K x) "__init__")) = some (.type "function")) &&
  (decide (PySem.W.findIn K (.ref (He.ga K x)) "__getattribute__" = some (some (.builtin "BaseException.__getattribute__"))) && (decide (PySem.W.findIn K (.ref (He.ga K x)) "__getattr__" = some none) && (PySem.W.hasDictIn K (He.ga K x) &&
  (decide (PySem.W.findIn K (.ref (He.ga K x)) "__class__" = some (some (.builtin "object.__class__"))) && (decide (PySem.W.specialIn K (.builtin "object.__class__") "__get__" = some (some (.builtin "getset_descriptor.__get__"))) && (decide (PySem.W.takesIn K (.builtin "object.__class__") = some true) &&
  (decide (PySem.W.mroIn K (He.ga K x) (.type "object") = some true) && decide (PySem.W.findIn K (.ref (He.ga K x)) f = some none))))))))))))))
structure ExB (K : PySem.W.Frag) (x f : Str) : Prop where
  T : OexC K (He.ga K x)
  i : PySem.W.findIn K (.ref (He.ga K x)) "__init__" = some (some (.ref (He.ma K (He.ga K x) "__init__")))
  t : PySem.W.typeIn K (.ref (He.ma K (He.ga K x) "__init__")) = some (.type "function")
  C : ExcC K (He.ga K x)
  X : XfC K (He.ga K x)
  no : PySem.W.findIn K (.ref (He.ga K x)) f = some none
theorem exB_ok {K : PySem.W.Frag} {x f : Str} (h : exB K x f = true) : ExB K x f := by
  simp only [exB, Bool.and_eq_true, decide_eq_true_eq] at h
  obtain ⟨h1, h2, h3, h4, h5, h6, h7, h8, h9, h10, h11, h12, h13, h14, h15⟩ := h
  exact ⟨⟨oexB_ok h1, h2, h3, h4, h5⟩, h6, h7, ⟨h8, h9, h3, h10, h11, h12, h13, h14⟩, ⟨h8, h9, h3, h10⟩, h15⟩
end Gx
namespace Gx
open PySem PySem.Spec PyProof.Rows L2
theorem upd_old {H : Hp} {a p : Addr} {o u : HO} (h : H a = some o) (hp : H p = none) : upd H p u a = some o := by rw [upd_ne (ne_of_none h hp)]; exact h
theorem Same.new {H : Hp} {p : Addr} {o : HO} (hp : H p = none) : Same H (upd H p o) := fun _ _ h => upd_old h hp
/-- a new object: the heap is from then on a letter -/
theorem laid {H H1 : Hp} {p : Addr} {o : HO} (g : upd H p o = H1) (h : H p = none) : Same H H1 ∧ H1 p = some o ∧ ∀ b, b ≠ p → H1 b = H b := by
  subst g
  exact ⟨Same.new h, upd_same, fun _ hb => upd_ne hb⟩
/-- an exception, made -/
theorem laidE {H H1 : Hp} {a d C : Addr} {f : Str} {v : V} (g : upd (upd H d (exd d [(f, v)])) a (exo a C (some d)) = H1) (ha : H a = none) (hd : H d = none) (ne : d ≠ a) : Same H H1 ∧ ExV H1 a C f v := by
  subst g
  have ha2 : upd H d (exd d [(f, v)]) a = none := by rw [upd_ne (Ne.symm ne)]; exact ha
  exact ⟨(Same.new hd).trans (Same.new ha2), d, upd_same, upd_old upd_same ha2⟩
theorem Same.over {H H' : Hp} {p : Addr} {o : HO} (k : Same H H') (h : H p = none) : Same H (upd H' p o) := fun b o' e => by
  rw [upd_ne (ne_of_none e h)]
  exact k _ _ e
theorem SqL.same {K : PySem.W.Frag} {H H' : Hp} {a : Addr} {xs : List V} (h : SqL K H a xs) (k : Same H H') : SqL K H' a xs := k.seq h
theorem SqT.same {K : PySem.W.Frag} {H H' : Hp} {a : Addr} {xs : List V} (h : SqT K H a xs) (k : Same H H') : SqT K H' a xs := by
  rcases h with (h | ⟨o, h⟩) | h
  · exact .inl (.inl (k _ _ h))
  · exact .inl (.inr ⟨o, k _ _ h⟩)
  · exact .inr h
mutual
theorem Dq.same {K : PySem.W.Frag} {H H' : Hp} (k : Same H H') : ∀ {v : V} {d : PyData}, Dq K H v d → Dq K H' v d
  | _, _, .non => .non
  | _, _, .bl b => .bl b
  | _, _, .int i => .int i
  | _, _, .str x => .str x
  | _, _, .lst h1 h2 => .lst (SqL.same h1 k) (DqAll.same k h2)
  | _, _, .tup h1 h2 => .tup (SqT.same h1 k) (DqAll.same k h2)
  | _, _, .dic h1 h2 => .dic (k _ _ h1) (DqAll.same k h2)
theorem DqAll.same {K : PySem.W.Frag} {H H' : Hp} (k : Same H H') : ∀ {vs : List V} {ds : List PyData}, DqAll K H vs ds → DqAll K H' vs ds
  | _, _, .nil => .nil
  | _, _, .cons h1 h2 => .cons (Dq.same k h1) (DqAll.same k h2)
end
theorem none_old {H H' : Hp} {p : Addr} (s : Same H H') (h : H' p = none) : H p = none := Same.free s h
end Gx

/-! an own ==, and != by it; == of dicts of data, both answers; dict comprehensions over any walk; a written tuple of texts -/
namespace Gx
open PySem PySem.Spec PyProof.Rows L2
theorem ne_slot : Slot "object" "__ne__" "object.__ne__" :=
  Slot.of (T := "object") (name := "__ne__") (owner := "object") (n := "__ne__") (by rw [typeLookup_type, builtinLookup_eq_fast]; kernel_rfl) (by decide +kernel) (by decide +kernel) (by decide +kernel) (.inl (by decide +kernel)) (by rw [isSubtype_type]; kernel_rfl)
section
variable {P : Program} {w : World} {A : Around} {E : Value → Shared → Prop} {s : Shared} {K : PySem.W.Frag} {x C f : Addr} {ox : Obj} {od : Option Obj} {b tb : Value}
theorem ifBound_ne {M : Model} {Q : Option Value → Shared → Prop} (X : K.In s.heap) (I : PySem.W.InstAt s.heap x ox C od) (hs : PySem.W.findIn K (.ref C) "__ne__" = some (some (.builtin "object.__ne__")))
    (h : wpAny M A (call (.builtin "object.__ne__") [.ref x, b]) (fun v => Q (some v)) E s) : wpAny M A (callSpecialIfBound? (.ref x) "__ne__" [b]) Q E s := by
  have bd := ne_slot.bind (.ref x)
  have fin : wpAny M A (call (.builtin "object.__ne__") ([.ref x] ++ [b]) >>= fun v => pure (some v)) Q E s := wpAny_bind (wpAny_mono h (fun v _ z => wpAny_pure z) fun _ _ z => z)
  simp only [callSpecialIfBound?, bindSpecialIfBound?]
  refine wpAny_holding (wpAny_bind (wpAny_bind (wpAny_bind (I.type.here ((PySem.W.looks_findIn X hs).here ?_)))))
  refine wpAny_bind (wpAny_askSetting (wpAny_ite ?_))
  rw [bd]
  split
  · exact wpAny_bind (wpAny_pure (wpAny_pure (by exact fin)))
  · exact wpAny_tryCatch (wpAny_bind (wpAny_pure (wpAny_pure (by exact fin))))
theorem call_ne {Q : Value → Shared → Prop} (hu : A.units + 1 < cLine) (X : K.In s.heap) (I : PySem.W.InstAt s.heap x ox C od) (ho : PySem.W.subIn K (.ref C) (.type "object") = some true) (hs : PySem.W.findIn K (.ref C) "__eq__" = some (some (.ref f))) (hf : PySem.W.isFn K (.ref f) = true)
    (h : wpAny (model P w) A.in1 (call (.ref f) [.ref x, b]) (fun r s' => ∃ k, r = .bool k ∧ Q (.bool (!k)) s') E s) : wpAny (model P w) A (call (.builtin "object.__ne__") [.ref x, b]) Q E s := by
  have is : PySem.W.Looks (model P w) s.heap (isInstance (.ref x) (.type "object")) true := by
    unfold isInstance
    exact PySem.W.Looks.andThen I.type (PySem.W.looks_subIn X ho)
  refine wpAny_call (codeAny_call_builtin ne_slot.plain PySem.F.cmpEntry_ne (PySem.W.check_slot PySem.F.cmpKind_ne PySem.F.cmpSplit_ne is (PySem.F.cmpArgs_ne _ _) ?_))
  have hu2 : A.in1.units < cLine := hu
  unfold Builtin.«object.__ne__»
  refine wpAny_bind (wpAny_pure ?_)
  dsimp only
  refine wpAny_bind (wpAny_cRoomFor hu2 ?_)
  refine wpAny_bind (PySem.W.ifBound_K X I hs hf (wpAny_mono h (fun r s' hr => ?_) fun _ _ e => e))
  obtain ⟨k, rfl, hq⟩ := hr
  refine wpAny_bind (wpAny_truthy_bool ?_)
  exact wpAny_pure hq
theorem rich_ne {Q : Value → Shared → Prop} (hu : A.units + 1 < cLine) (X : K.In s.heap) (I : PySem.W.InstAt s.heap x ox C od) (hb : PySem.W.Looks (model P w) s.heap (typeOf b) tb) (hn : PySem.W.notFirst K C tb = true) (ho : PySem.W.subIn K (.ref C) (.type "object") = some true)
    (hd : PySem.W.findIn K (.ref C) "__ne__" = some (some (.builtin "object.__ne__"))) (hs : PySem.W.findIn K (.ref C) "__eq__" = some (some (.ref f))) (hf : PySem.W.isFn K (.ref f) = true)
    (h : wpAny (model P w) A.in1 (call (.ref f) [.ref x, b]) (fun r s' => ∃ k, r = .bool k ∧ Q (.bool (!k)) s') E s) : wpAny (model P w) A (richCompare .NotEq (.ref x) b) Q E s := by
  have one : wpAny (model P w) A (tryCompare (.ref x) "__ne__" b) (fun r s' => ∃ k, r = some (.bool k) ∧ Q (.bool k) s') E s := by
    unfold tryCompare
    refine wpAny_bind (ifBound_ne X I hd (call_ne hu X I ho hs hf (wpAny_mono h (fun r s' z => ?_) fun _ _ e => e)))
    obtain ⟨k, rfl, q⟩ := z
    exact ⟨k, rfl, wpAny_pure ⟨_, rfl, q⟩⟩
  have last : wpAny (model P w) A (tryCompare (.ref x) "__ne__" b >>= fun r => match r with | some v => pure v | none => pure .none) Q E s := by
    refine wpAny_bind (wpAny_mono one (fun r s' z => ?_) fun _ _ e => e)
    obtain ⟨k, rfl, q⟩ := z
    exact wpAny_pure q
  unfold richCompare
  simp only [oneThing_ref]
  refine wpAny_holding (wpAny_bind (wpAny_cRoomFor (by omega) ?_))
  refine wpAny_bind (I.type.here (wpAny_bind (hb.here ?_)))
  have go : wpAny (model P w) A (tryCompare (.ref x) (cmpInfo .NotEq).2.1 b) (fun r s' => ∃ k, r = some (.bool k) ∧ Q (.bool k) s') E s := one
  split
  · rename_i q
    have e : PySem.W.subIn K tb (.ref C) = some false := by
      rcases Bool.or_eq_true_iff.mp hn with e | e
      · rw [beq_iff_eq.mp e] at q
        simp at q
      · exact beq_iff_eq.mp e
    refine wpAny_bind ((PySem.W.looks_subIn X e).here ?_)
    simp only [Bool.false_eq_true, if_false]
    refine wpAny_bind (wpAny_mono go (fun r s' z => ?_) fun _ _ e => e)
    obtain ⟨k, rfl, q⟩ := z
    exact wpAny_pure q
  · refine wpAny_bind (wpAny_pure ?_)
    simp only [Bool.false_eq_true, if_false]
    refine wpAny_bind (wpAny_mono go (fun r s' z => ?_) fun _ _ e => e)
    obtain ⟨k, rfl, q⟩ := z
    exact wpAny_pure q
end
/-- x == y, x != y where x is an instance of the class at C with an == of its own, y of a type that doesn't go first: the promise of __eq__ at both, its answer a bool -/
def rOwn (K : PySem.W.Frag) (C : Addr) (sp : Sp) (E : XK) (neg : Bool) : R2 := fun x y H Q => ∃ a dx fs T, x = .ref a ∧ H a = some (.ins C dx fs) ∧ TyX K H y T ∧ PySem.W.notFirst K C T = true ∧ sp [x, y] H (fun v H' => ∃ k, v = .bl k ∧ Q (.bl (neg != k)) H') E
section
variable {X : Cx} {CX : CXT} {n : Nat} {C f : Addr} {fd : FuncData} {ps : List Str} {sp : Sp} {E : XK}
theorem op_eqO (F : FnOk X.prog X.w X.K X.mg X.base CX n f fd ps sp) (hs : PySem.W.findIn X.K (.ref C) "__eq__" = some (some (.ref f))) (hf : PySem.W.isFn X.K (.ref f) = true) (hb : Binds X.K fd ps []) (hx : Passes CX X E) (hr : Room n X.A) : OpR X (compareOp .Eq) (rOwn X.K C sp E false) := by
  intro pins s σ H x y v u Q I rx ry h
  obtain ⟨a, dx, fs, T, rfl, ea, ty, nf, q⟩ := h
  cases rx
  obtain ⟨mA, J, _⟩ := ins_get I.hok ea
  obtain ⟨od, J, _⟩ := J.look
  obtain ⟨Pz, Z, pz, _⟩ := kit_of I ry ty
  obtain ⟨m, hF⟩ := I.fr
  have lk : PySem.W.Looks (model X.prog X.w) s.heap (typeOf u) T := Z.ty _ _ I.kIn pz
  show wpAny _ _ (richCompare .Eq (.ref a) u) _ _ _
  refine PySem.W.cmp_K (op := .Eq) (tb := T) hr.units0 hF I.ok.mod.kin J lk nf hs hf ?_
  refine wpAny_mono (run_fn (us := [.ref a, u]) (vs := [.ref a, y]) F hr hb .nil hx I (.cons rfl (.cons ry .nil)) q) (fun r s' z => ?_) fun _ _ e => e
  obtain ⟨w, H', I', rw_, k, rfl, q⟩ := z
  cases rw_
  have e : (false != k) = k := by cases k <;> rfl
  rw [e] at q
  exact ⟨.bl k, H', I', rfl, q⟩
theorem op_neO (F : FnOk X.prog X.w X.K X.mg X.base CX n f fd ps sp) (hs : PySem.W.findIn X.K (.ref C) "__eq__" = some (some (.ref f))) (hf : PySem.W.isFn X.K (.ref f) = true) (ho : PySem.W.subIn X.K (.ref C) (.type "object") = some true)
    (hd : PySem.W.findIn X.K (.ref C) "__ne__" = some (some (.builtin "object.__ne__"))) (hb : Binds X.K fd ps []) (hx : Passes CX X E) (hr : Room (n + 1) X.A) (hu : X.A.units + 1 < cLine) : OpR X (compareOp .NotEq) (rOwn X.K C sp E true) := by
  intro pins s σ H x y v u Q I rx ry h
  obtain ⟨a, dx, fs, T, rfl, ea, ty, nf, q⟩ := h
  cases rx
  obtain ⟨mA, J, _⟩ := ins_get I.hok ea
  obtain ⟨od, J, _⟩ := J.look
  obtain ⟨Pz, Z, pz, _⟩ := kit_of I ry ty
  have lk : PySem.W.Looks (model X.prog X.w) s.heap (typeOf u) T := Z.ty _ _ I.kIn pz
  show wpAny _ _ (richCompare .NotEq (.ref a) u) _ _ _
  refine rich_ne hu I.kIn J lk nf ho hd hs hf ?_
  have hl := F.len _ _ _ _ q
  refine wpAny_call (codeAny_mono (F.run X.A.in1 X.stack s H ⟨[.ref a, u], []⟩ [.ref a, u] [.ref a, y] _ E hr.in1 I.env0.in1 (by
    have := hb s [.ref a, u] I.kIn (by simpa using hl)
    simpa using this) (.cons rfl (.cons ry .nil)) q) fun r s' z => ?_)
  rcases r with e | (_ | _ | _ | u2)
  · exact hx pins σ H s e s' I z
  · exact False.elim z
  · exact False.elim z
  · exact False.elim z
  · obtain ⟨v2, H', I', rv, k, rfl, q⟩ := I.after z
    cases rv
    refine ⟨k, rfl, .bl (!k), H', I', rfl, ?_⟩
    have e : (true != k) = !k := by cases k <;> rfl
    rw [e] at q
    exact q
end
end Gx

/-! == of dicts of data, both answers; dict comprehensions over any walk; a written tuple of texts -/
namespace Gx
open PySem PySem.Spec PyProof.Rows L2
theorem valV_at {κ : Type} [DecidableEq κ] : ∀ {ls : List (κ × V)} {i : Nat} {k : κ} {u : V}, (ls.map (·.1)).Nodup → ls[i]? = some (k, u) → valV ls k = some u
  | [], i, k, u, _, h => by simp at h
  | p :: r, 0, k, u, _, h => by
    simp at h
    subst h
    exact valV_pos rfl
  | p :: r, i + 1, k, u, nd, h => by
    simp only [List.getElem?_cons_succ] at h
    simp only [List.map_cons, List.nodup_cons] at nd
    have hk : k ∈ r.map (·.1) := List.mem_map.mpr ⟨(k, u), List.mem_of_getElem? h, rfl⟩
    rw [valV_neg (fun e => nd.1 (e ▸ hk))]
    exact valV_at nd.2 h
section
variable {X : Cx} {pins : List (Addr × Obj)} {σ : L2.St} {H : Hp} {s : Shared}
theorem hits_dd (I : Inv X pins σ H s) {A : Around} (hu : A.units + 64 < cLine) {ls : List (Key × V)} {vb : List (Key × Value)} (rb : KV ls vb) : ∀ {ks : List (Key × V)} {va : List (Key × Value)} {xs : List V} {ds es : List PyData}, KV ks va → DpAll X.K H (ks.map (·.2)) ds → DpAll X.K H xs es →
    Paired (fun (p : Key × V) u => valV ls p.1 = some u) ks xs → (∀ d ∈ ds, SeqAt.shaped d = true) → (∀ d ∈ es, SeqAt.shaped d = true) → PySem.W.KeqHitsP X.prog X.w A s vb va (PyData.eqvAll ds es)
  | [], va, xs, ds, es, ra, hd, he, hp, sd, se => by
    cases ra
    cases hp
    cases hd
    cases he
    exact .nil
  | p :: ks, va, xs, ds, es, ra, hd, he, hp, sd, se => by
    cases ra with
    | @cons _ q _ qs r1 r2 =>
    cases hp with
    | @cons _ u _ us p1 p2 =>
    cases hd with
    | @cons _ _ d ds d1 d2 =>
    cases he with
    | @cons _ _ e es e1 e2 =>
    have rr : RelO (some u) (valueAt vb p.1) := by rw [← p1]; exact rb.val p.1
    obtain ⟨y, hy, ry⟩ := rr.some_of
    obtain ⟨key, v⟩ := q
    obtain ⟨h1, h2⟩ := r1
    rw [show p.1 = key from h1] at hy
    obtain ⟨as, a1⟩ := Dp.reads I d _ _ d1 h2
    obtain ⟨bs, b1⟩ := Dp.reads I e _ _ e1 ry
    have z1 := sd d List.mem_cons_self
    have z2 := se e List.mem_cons_self
    have eq : SeqAt.EqP X.prog X.w A s v y (PyData.eqv d e) := (SeqAt.eqAt_reads d e A s v y as bs a1 b1 (SeqAt.canLay_of_shaped z1) (SeqAt.canLay_of_shaped z2) (SeqAt.room_of_shaped z1 hu)).eqP
    rw [show PyData.eqvAll (d :: ds) (e :: es) = (PyData.eqv d e && PyData.eqvAll ds es) from by simp only [PyData.eqvAll]]
    exact .hit hy eq (hits_dd I hu rb r2 d2 e2 p2 (fun x hx => sd x (List.mem_cons_of_mem _ hx)) (fun x hx => se x (List.mem_cons_of_mem _ hx)))
end
/-- a == b, two dicts whose keys are the same in the same sequence, their values data -/
def rEqDD (K : PySem.W.Frag) : R2 := fun x y H Q => ∃ (a b : Addr) (ks ls : List (Key × V)) (ds es : List PyData), x = .ref a ∧ y = .ref b ∧ H a = some (.dK ks) ∧ H b = some (.dK ls) ∧ ks.map (·.1) = ls.map (·.1) ∧ (ls.map (·.1)).Nodup ∧ DpAll K H (ks.map (·.2)) ds ∧ DpAll K H (ls.map (·.2)) es ∧
  (∀ d ∈ ds, SeqAt.shaped d = true) ∧ (∀ d ∈ es, SeqAt.shaped d = true) ∧ Q (.bl (PyData.eqvAll ds es)) H
theorem vals_at {ls : List (Key × V)} : ∀ {ks rs : List (Key × V)}, ks.map (·.1) = rs.map (·.1) → (∀ r ∈ rs, valV ls r.1 = some r.2) → Paired (fun (p : Key × V) u => valV ls p.1 = some u) ks (rs.map (·.2))
  | [], [], _, _ => .nil
  | [], _ :: _, h, _ => by simp at h
  | _ :: _, [], h, _ => by simp at h
  | k :: ks, r :: rs, h, w => by
    simp only [List.map_cons, List.cons.injEq] at h
    exact .cons (by rw [h.1]; exact w r List.mem_cons_self) (vals_at h.2 fun x hx => w x (List.mem_cons_of_mem _ hx))
section
variable {X : Cx}
theorem op_eqDD (hu : X.A.units + 65 < cLine) : OpR X (compareOp .Eq) (rEqDD X.K) := by
  intro pins s σ H x y v u Q I rx ry h
  obtain ⟨a, b, ks, ls, ds, es, rfl, rfl, ea, eb, hk, nd, d1, d2, s1, s2, q⟩ := h
  cases rx
  cases ry
  obtain ⟨_, ya, va, ra, da⟩ := (show ObjOk X.prog X.w H s.heap a (.dK ks) from I.hok a _ ea)
  obtain ⟨_, yb, vb, rb, db⟩ := (show ObjOk X.prog X.w H s.heap b (.dK ls) from I.hok b _ eb)
  have hl : ks.length = ls.length := by simpa using congrArg List.length hk
  have hp : Paired (fun (p : Key × V) u => valV ls p.1 = some u) ks (ls.map (·.2)) := vals_at hk fun r hr => by
    obtain ⟨i, hi, e⟩ := List.mem_iff_getElem.mp hr
    exact valV_at (i := i) nd (by rw [List.getElem?_eq_getElem hi, e])
  refine PySem.W.rcP_dicts (knd := mixKind X.prog X.w) (r := PyData.eqvAll ds es) ya yb da db (by omega) (fun _ => hits_dd I (A := X.A.in1) (by show X.A.units + 1 + 64 < cLine; omega) rb ra d1 d2 hp s1 s2) _ _ ?_
  have e : va.length = vb.length := by rw [← ra.length, ← rb.length]; exact hl
  rw [show (va.length == vb.length && PyData.eqvAll ds es) = PyData.eqvAll ds es from by rw [e]; simp]
  exact ⟨.bl _, H, I, rfl, q⟩
end
/-- a dict comprehension over any walk -/
theorem dc_it {J : It} {n : Nat} {G : Hp → Prop} {Y : Nat → Hp → V → Hp → Prop} (w : Walk J n G Y) {g : TG} {tt : TT} {tk tv : TE} {vs : List Nat} {σ : L2.St} {H1 : Hp} {D : Addr} {Qd : Hp → Prop} (Pv : Nat → Hp → Prop) (h0 : Pv 0 (upd H1 D (.dK []))) (hG : ∀ i H, i ≤ n → Pv i H → G H)
    (hs : ∀ i x H H', i < n → Pv i H → Y i H x H' → g x (wipe σ vs) H' fun σ2 H2 => wipe σ2 vs = wipe σ vs ∧ tt σ2 H2 fun b H3 =>
      if b = true then tk σ2 H3 fun y H4 => tv σ2 H4 fun z H5 => ∃ kvs k, y = kV k ∧ H5 D = some (.dK kvs) ∧ kvs.length < sizeLine ∧ Pv (i + 1) (upd H5 D (.dK (putK kvs k z))) else Pv (i + 1) H3) (hd : ∀ H, Pv n H → Qd H) :
    ∃ W : Nat → Nat → Hp → Prop, (∃ m, W 0 m (upd H1 D (.dK []))) ∧ ∀ i m H, W i m H →
      (J.stop i H ∧ Qd H) ∨ (J.go i H ∧ ∃ Nx : Hp → Prop, (∀ H', Nx H' → ∃ m', m' < m ∧ W (i + 1) m' H') ∧ ∀ x H', J.yld i H x H' → g x (wipe σ vs) H' fun σ2 H2 => wipe σ2 vs = wipe σ vs ∧ tt σ2 H2 fun b H3 =>
        if b = true then tk σ2 H3 fun y H4 => tv σ2 H4 fun z H5 => ∃ kvs k, y = kV k ∧ H5 D = some (.dK kvs) ∧ kvs.length < sizeLine ∧ Nx (upd H5 D (.dK (putK kvs k z))) else Nx H3) := by
  refine ⟨fun i m H => m = n - i ∧ i ≤ n ∧ Pv i H, ⟨n, by omega, Nat.zero_le _, h0⟩, fun i m H ⟨em, hi, p⟩ => ?_⟩
  subst em
  rcases Nat.lt_or_ge i n with lt | ge
  · exact .inr ⟨w.goes i H lt (hG i H hi p), Pv (i + 1), fun H' p' => ⟨n - (i + 1), by omega, rfl, lt, p'⟩, fun x H' y => hs i x H H' lt p (w.yields i H x H' lt (hG i H hi p) y)⟩
  · obtain rfl : i = n := by omega
    exact .inl ⟨w.stops H (hG i H hi p), hd H p⟩
/-- the object at a is a written tuple of these texts -/
def tupB (K : PySem.W.Frag) (a : Addr) (ss : List Str) : Bool := match K.lookup a with
  | some ⟨.type "tuple", _, .seq its _, _⟩ => (decide (its.size ≤ sizeLine)) && (its.toList.map fun v => match v with | .str x _ => some x | _ => none) == ss.map some
  | _ => false
theorem tupB_ok {K : PySem.W.Frag} {a : Addr} {ss : List Str} (h : tupB K a ss = true) (H : Hp) : SqT K H a (ss.map V.str) := by
  unfold tupB at h
  split at h
  · rename_i dd its n sl e
    obtain ⟨h1, h2⟩ := Bool.and_eq_true_iff.mp h
    refine .inr ⟨_, its, n, e, rfl, rfl, of_decide_eq_true h1, ?_⟩
    replace h2 := beq_iff_eq.mp h2
    clear h h1 e
    generalize its.toList = l at h2
    induction l generalizing ss with
    | nil =>
      cases ss with
      | nil => exact .nil
      | cons _ _ => simp at h2
    | cons v l ih =>
      cases ss with
      | nil => simp at h2
      | cons x ss =>
        simp only [List.map_cons, List.cons.injEq] at h2
        refine .cons ?_ (ih h2.2)
        obtain ⟨h3, _⟩ := h2
        split at h3
        · rename_i y t
          cases h3
          exact ⟨t, rfl⟩
        · cases h3
  · cases h
end Gx

/-! a value's place in a tuple of texts, any data as the value -/
namespace Gx
open PySem PySem.Spec PyProof.Rows PySem.SeqAt L2
theorem str_eq_dict (b : Str) (u : Tok) (l : Addr) (od : Option Addr) (es : Array DictEntry) (ep : Nat) (sl : Array (Option Value)) :
    Meets (Builtin.«str.__eq__» ⟨[.str b u, .ref l], []⟩) (fun _ R s => s.heap.get? l = some ⟨.type "dict", od, .dict es ep, sl⟩ ∧ R (.ok (.ret .notImplemented)) s) :=
  .of_wp fun prog w A R s h => by
    obtain ⟨hp, g, d, tk, os⟩ := s
    obtain ⟨hl, h⟩ := h
    have f1 := PySem.F.sub_dict_str
    wp_walk using wpAny_loadPart' hl, wpAny_load hl
    exact ⟨_, rfl, h⟩
/-- a dict stands there -/
def DictAt (h : Heap) (l : Addr) : Prop := ∃ od es ep sl, h.get? l = some ⟨.type "dict", od, .dict es ep, sl⟩
theorem dictAt_of {K : Type} [DecidableEq K] {P : Program} {w : World} {knd : KeyKind P w K} {h : Heap} {l : Addr} {kvs : List (K × Value)} (d : h.DictOf knd l kvs) : DictAt h l := by
  obtain ⟨⟨c, od, dt, sl⟩, es, ep, ho, hx, hd, _⟩ := d
  obtain ⟨h1, _⟩ := hx
  simp only at h1 hd
  subst h1 hd
  exact ⟨od, es, ep, sl, ho⟩
section
variable {A : Around} {s : Shared}
theorem eqAt_str_dict {l : Addr} (b : Str) (u : Tok) (dd : DictAt s.heap l) (hu : A.units < cLine) : EqAt A s (.str b u) (.ref l) false := fun prog w E Q h => by
  obtain ⟨od, es, ep, sl, ho⟩ := dd
  have ty : s.TypeIs (.ref l) "dict" := ⟨_, ho, rfl⟩
  have back : ∀ Q' : Value → Shared → Prop, Q' .notImplemented s → wpAny (model prog w) A (call (.builtin "dict.__eq__") [.ref l, .str b u]) Q' E s := by
    intro Q' hq
    refine wpAny_call_entry PySem.F.slot_dict_eq_refl ty PySem.F.entry_dict_eq ?_ (PySem.F.args_dict_eq_2 _ _)
    show wpAny _ _ (Builtin.Dict.dictSlotArgs "__eq__" ⟨[.ref l, .str b u], []⟩ >>= _) _ _ s
    refine wpAny_bind ?_
    unfold Builtin.Dict.dictSlotArgs
    refine wpAny_bind (wpAny_notOrdered_dict ty ?_)
    show wpAny _ _ (pure (Value.ref l, Value.str b u)) _ _ s
    refine wpAny_pure ?_
    refine wpAny_bind (wpAny_isInstance (T := "str") (typeIs_str s b u) PySem.F.sub_str_dict ?_)
    simp only [Bool.not_false, if_true]
    exact wpAny_bind (wpAny_rule (wpAny_pure ⟨_, rfl, hq⟩))
  unfold eqBool
  refine wpAny_holding ?_
  refine wpAny_ite_split (fun hab => absurd (eq_of_beq hab) nofun) (fun _ => ?_)
  exact wpAny_bind (rc_eq_decline_or (k := false) (typeIs_str s b u) ty (by decide) PySem.F.sub_dict_str PySem.F.slot_str_eq PySem.F.slot_dict_eq_refl
    (fun _ hq => call_meets PySem.F.slot_str_eq (typeIs_str s b u) PySem.F.entry_str_eq (PySem.F.args_str_eq_2 _ _) (str_eq_dict b u l od es ep sl) ⟨ho, hq⟩)
    back (fun _ hq => wpAny_of_eq (rfl : isSame (.str b u) (.ref l) = pure false) hq) (.inr hu) (wpAny_truthy_bool h))
end
end Gx
namespace Gx
open PySem PySem.Spec PyProof.Rows L2
/-- data that is no text -/
inductive NoStr (K : PySem.W.Frag) (H : Hp) : V → Prop
  | flat {x : V} : flatV x = true → (∀ z, x ≠ .str z) → NoStr K H x
  | lst {a : Addr} {xs : List V} : SqL K H a xs → NoStr K H (.ref a)
  | tup {a : Addr} {xs : List V} : SqT K H a xs → NoStr K H (.ref a)
  | dic {a : Addr} {kvs : List (Key × V)} : H a = some (.dK kvs) → NoStr K H (.ref a)
section
variable {X : Cx} {pins : List (Addr × Obj)} {σ : L2.St} {H : Hp} {s : Shared}
theorem eqV_no {z : Str} {x : V} (h : ∀ y, x ≠ .str y) : eqV (.str z) x = false := by
  cases x <;> first | rfl | exact absurd rfl (h _)
theorem NoStr.eq (I : Inv X pins σ H s) {A : Around} (hu : A.units < cLine) {x : V} {v : Value} (h : NoStr X.K H x) (rx : RelV x v) (z : Str) (t : Tok) : SeqAt.EqAt A s (.str z t) v false := by
  cases h with
  | flat f n =>
    have e := eqAt_V (A := A) (s := s) (show RelV (.str z) (.str z t) from ⟨t, rfl⟩) rx rfl f
    rwa [eqV_no n] at e
  | lst q =>
    cases rx
    obtain ⟨_, _, pl, _⟩ := I.list q
    exact SeqAt.EqAt.str_list z t pl.isList hu
  | tup q =>
    cases rx
    obtain ⟨_, _, pl, _⟩ := I.tuple q
    exact SeqAt.EqAt.str_tuple z t pl hu
  | @dic a kvs e =>
    cases rx
    obtain ⟨_, _, _, _, dd⟩ := (show ObjOk X.prog X.w H s.heap a (.dK kvs) from I.hok a _ e)
    exact eqAt_str_dict z t (dictAt_of dd) hu
theorem no_items (I : Inv X pins σ H s) {A : Around} (hu : A.units < cLine) {x : V} {v : Value} (h : NoStr X.K H x) (rx : RelV x v) : ∀ {ss : List Str} {us : List Value}, Vals (ss.map V.str) us → ∀ u ∈ us, SeqAt.EqAt A s u v false
  | [], _, .nil => fun u hu => by cases hu
  | z :: ss, _, .cons r t => fun u hm => by
    rcases List.mem_cons.mp hm with rfl | hm
    · obtain ⟨k, rfl⟩ := r
      exact h.eq I hu rx z k
    · exact no_items I hu h rx t u hm
/-- x not in t, t a tuple of texts, x any data -/
def rNotInT (K : PySem.W.Frag) : R2 := fun x y H Q => ∃ (p : Addr) (ss : List Str), y = .ref p ∧ SqT K H p (ss.map V.str) ∧ ((∃ z, x = .str z ∧ Q (.bl (!decide (z ∈ ss))) H) ∨ (NoStr K H x ∧ Q (.bl true) H))
theorem in_texts {z : Str} : ∀ ss : List Str, inV (.str z) (ss.map V.str) = decide (z ∈ ss)
  | [] => rfl
  | y :: ss => by
    have ih := in_texts (z := z) ss
    unfold inV at ih ⊢
    rw [List.map_cons, List.any_cons, ih]
    show ((y == z) || _) = _
    by_cases e : y = z
    · subst e
      simp
    · have h1 : (y == z) = false := beq_eq_false_iff_ne.mpr e
      have h2 : z ≠ y := fun q => e q.symm
      rw [h1]
      simp [h2]
theorem flat_texts (ss : List Str) : (ss.map V.str).all flatV = true := by
  induction ss with
  | nil => rfl
  | cons y ss ih => rw [List.map_cons, List.all_cons, ih]; rfl
theorem op_notInT (hu : X.A.units + 1 < cLine) : OpR X (compareOp .NotIn) (rNotInT X.K) := by
  intro pins s σ H x y v u Q I rx ry h
  obtain ⟨p, ss, rfl, hp, h⟩ := h
  rcases h with ⟨z, rfl, q⟩ | ⟨n, q⟩
  · refine op_notIn_seq pins s σ H _ _ v u Q I rx ry ⟨p, _, rfl, .inr hp, rfl, flat_texts ss, ?_⟩
    rw [in_texts]
    exact q
  · cases ry
    obtain ⟨us, r, pl, _⟩ := I.tuple hp
    refine SeqAt.notIn_tupleAt (fun _ => false) pl (fun w hw => no_items I (A := X.A.in1) hu n rx r w (by simpa using hw)) ⟨.bl _, H, I, rfl, ?_⟩
    rw [show (us.toArray.any fun _ => false) = false by simp]
    exact q
end
end Gx

/-! tuple(d), d a dict -/
namespace Gx
open PySem PySem.Spec PyProof.Rows L2
section
variable {P : Program} {w : World} {A : Around} {E : Value → Shared → Prop} {s : Shared} {T : String} {r d : Addr} {n : Nat} {Pv : Nat → Value → Prop} {OK : Heap → Prop}
theorem collect_src {Q : List Value → Shared → Prop} (S : PySem.W.KdlSrc P w T r d n Pv OK) (hh : A.handled = none) (ok : OK s.heap) (hn : n ≤ sizeLine)
    (hQ : ∀ (g : Heap) (tk : Nat) (acc : Array Value), (∀ b o, s.heap.get? b = some o → g.get? b = some o) → ItemsOf Pv acc n → Q acc.toList { s with heap := g, toks := tk }) : wpAny (model P w) A (collect (.ref r)) Q E s := by
  let L : Obj := { cls := .type "list", data := .seq ([] : List Value).toArray }
  have at_ : (s.heap.push L).get? s.heap.objs.size = some { cls := .type "list", data := .seq #[] 0 } := Heap.get?_push_size _ rfl
  have old : ∀ b o, s.heap.get? b = some o → (s.heap.push L).get? b = some o := fun b o e => Heap.get?_push_of_some _ e
  have lt := S.there _ ok
  unfold collect
  refine wpAny_bind (wpAny_runValue (codeAny_builtin F.entry_proto_collect ?_))
  rw [Around.under_plainId F.plain_proto_collect _]
  show wpAny _ A.in1 (newList [] >>= fun l => again (.builtin "list.__iadd__" ⟨[l, .ref r], []⟩)) _ _ s
  refine wpAny_bind (wpAny_newObj_type (wpAny_pure ⟨plainId_quiet F.plain_list_iadd _, codeAny_builtin F.entry_list_iadd ?_⟩))
  rw [Around.under_plainId F.plain_list_iadd _]
  show wpAny _ A.in1 (Builtin.List.listExtendWith (.ref s.heap.objs.size) (.ref r) (.ref s.heap.objs.size)) _ _ _
  have run := PySem.W.kdl_extend (A := A) (s := { s with heap := s.heap.push L }) (R := fun x t => x = .ok (.ret (.ref s.heap.objs.size)) ∧ ∃ (g : Heap) (tk : Nat) (acc : Array Value) (c : Nat), t = { s with heap := g, toks := tk } ∧ (∀ b o, s.heap.get? b = some o → g.get? b = some o) ∧
      g.get? s.heap.objs.size = some { cls := .type "list", dict := none, data := .seq acc c, slots := #[] } ∧ ItemsOf Pv acc n) S hh (S.keep _ _ ok fun b _ o e => old b o e) s.heap.objs.size (Nat.ne_of_gt lt.1) (Nat.ne_of_gt lt.2) (.ref s.heap.objs.size) 0 at_
    (fun g tk acc c k e i => ⟨rfl, g, tk, acc, c, rfl, fun b o q => k b o (Nat.ne_of_lt (Heap.lt_size q)) (old b o q), e, i⟩) hn
  have fin : ∀ t, (∃ (g : Heap) (tk : Nat) (acc : Array Value) (c : Nat), t = { s with heap := g, toks := tk } ∧ (∀ b o, s.heap.get? b = some o → g.get? b = some o) ∧ g.get? s.heap.objs.size = some { cls := .type "list", dict := none, data := .seq acc c, slots := #[] } ∧ ItemsOf Pv acc n) →
      wpAny (model P w) A (load s.heap.objs.size >>= fun o => match o.data with | .seq v _ => pure v.toList | _ => pure []) Q E t := by
    rintro t ⟨g, tk, acc, c, rfl, k, e, i⟩
    exact wpAny_bind (wpAny_load e (wpAny_pure (hQ g tk acc k i)))
  refine wpAny_mono run (fun x t z => ?_) (fun e t z => ?_)
  · cases x with
    | done f =>
      obtain ⟨e, g, tk, acc, c, rfl, k, q, i⟩ := z
      cases e
      show wpAny _ A (load s.heap.objs.size >>= _) _ _ _
      exact wpAny_bind (wpAny_load q (wpAny_pure (hQ g tk acc k i)))
    | again c =>
      refine ⟨z.1, codeAny_mono z.2 fun x t z => ?_⟩
      obtain ⟨rfl, g, tk, acc, c, rfl, k, q, i⟩ := z
      show wpAny _ A (load s.heap.objs.size >>= _) _ _ _
      exact wpAny_bind (wpAny_load q (wpAny_pure (hQ g tk acc k i)))
  · exact absurd z.1 (by simp)
theorem tuple_src {Q : Value → Shared → Prop} (S : PySem.W.KdlSrc P w T r d n Pv OK) (hh : A.handled = none) (ok : OK s.heap) (hn : n ≤ sizeLine) (nt : (Value.type T == Value.type "tuple") = false)
    (hQ : ∀ (g : Heap) (tk : Nat) (acc : Array Value), (∀ b o, s.heap.get? b = some o → g.get? b = some o) → ItemsOf Pv acc n → Q (.ref g.objs.size) { s with heap := g.push { cls := .type "tuple", data := .seq acc }, toks := tk }) :
    wpAny (model P w) A (call (.type "tuple") [.ref r]) Q E s := by
  refine callType_codes (Q₁ := fun obj t => t.TypeIs obj "tuple" ∧ Q obj t) F.called_tuple (F.typeCall_tuple_1 _) F.entry_object_init ?_ fun obj t z => ⟨z.1, F.args_object_init_2 obj _, object_init_meets F.called_tuple.init.lookup F.called_tuple.made (by decide) P w A.in1 _ t ⟨z.1, rfl, z.2⟩⟩
  refine codeAny_of_tree ?_
  show wpAny _ _ (do checkBuiltinCall "tuple.__new__" ⟨[.type "tuple", .ref r], []⟩; again (.builtin "tuple.__new__" ⟨[.type "tuple", .ref r], []⟩)) _ _ s
  refine wpAny_bind (wpAny_of_eq (F.newCall_tuple_1 _) (wpAny_pure ⟨plainId_quiet F.plain_tuple_new _, codeAny_builtin F.entry_tuple_new ?_⟩))
  rw [Around.under_plainId F.plain_tuple_new _]
  have f1 := sub_tuple_self
  have f2 := init_tuple_lookup
  have f3 := madeHere_tuple
  have ty : s.TypeIs (.ref r) T := S.type s ok
  have hh1 : A.in1.in1.handled = none := hh
  wp_walk using wpAny_typeOf ty, collect_src S hh1 ok hn
  intro g tk acc k i
  show wpAny _ _ (Builtin.Tuple.tupleExact acc.toList.toArray >>= fun v => ret v) _ _ _
  have e : acc.toList.toArray = acc := by simp
  rw [e]
  unfold Builtin.Tuple.tupleExact
  refine wpAny_bind (wpAny_newObj_type ?_ (by show acc.size ≤ sizeLine; rw [i.1]; exact hn))
  exact wpAny_pure ⟨⟨_, Heap.get?_push_size _ rfl, rfl⟩, hQ g tk acc k i⟩
end
/-- tuple(d): its keys -/
def rTupD : List V → Hp → VK → Prop := fun xs H Q => ∃ (p : Addr) (kvs : List (Key × V)), xs = [.ref p] ∧ H p = some (.dK kvs) ∧ ∀ q, H q = none → Q (.ref q) (upd H q (.tup (kvs.map fun kv => kV kv.1)))
theorem call_tupleD {X : Cx} (hc : X.calm = true) : CallR X (.type "tuple") rTupD := by
  intro pins s σ H xs us Q I r h
  obtain ⟨p, kvs, rfl, hk, q⟩ := h
  obtain ⟨u, rfl, rx⟩ := vals1 r
  cases rx
  obtain ⟨z, lo, vs, rk, hd⟩ := (show ObjOk X.prog X.w H s.heap p (.dK kvs) from I.hok p _ hk)
  obtain ⟨ep, hat⟩ := hd.dictAt
  have hl : kvs.length = vs.length := Paired.length rk
  refine tuple_src (PySem.W.kdl_dict (knd := mixKind X.prog X.w) (kvs := vs) (ep := ep) lo) (I.ok.hd hc) hat (by rw [← hl]; exact z) (by decide) fun g tk acc k i => ?_
  have hv : Vals (kvs.map fun kv => kV kv.1) acc.toList := by
    refine vals_of_at (by rw [List.length_map, hl, ← i.1]; simp) fun j x u h1 h2 => ?_
    obtain ⟨key, y, hky, hi⟩ := i.2 j u (by rw [← Array.getElem?_toList]; exact h2)
    have e1 : (kvs.map (·.1))[j]? = some key := by
      rw [KV.keys rk, List.getElem?_map, hky]
      rfl
    rw [List.getElem?_map] at h1 e1
    obtain ⟨kv, hkv, rfl⟩ := Option.map_eq_some_iff.mp h1
    rw [hkv] at e1
    cases e1
    exact keyIs_rel hi
  have I1 : Inv X pins σ H { s with heap := g, toks := tk } := I.kept (t' := tk) k
  have hn : (kvs.map fun kv => kV kv.1).length ≤ sizeLine := by rw [List.length_map]; exact z
  have e : acc = acc.toList.toArray := by simp
  have I2 : Inv X pins σ (upd H g.objs.size (.tup (kvs.map fun kv => kV kv.1))) { s with heap := g.push { cls := .type "tuple", data := .seq acc }, toks := tk } :=
    I1.laid (t' := tk) (fun b o e => Heap.get?_push_of_some _ e) (Nat.le_refl _) (show ObjOk X.prog X.w _ _ _ (.tup _) from ⟨hn, acc.toList, hv, by rw [e]; exact IsTup.new _ _⟩)
  exact ⟨.ref g.objs.size, _, I2, rfl, q _ (I1.hok.fresh (Nat.le_refl _))⟩
end Gx

/-! len(set(texts)), any number of texts -/
namespace Gx
open PySem PySem.Spec PyProof.Rows
/-- a set object at a: the texts of xs, n of them -/
def Some1 (P : Program) (w : World) (h : Heap) (a : Addr) (xs : List Str) (n : Nat) : Prop := h.SetOf (PySem.strKind P w) a (fun k => decide (k ∈ xs)) n ∧ n ≤ xs.length ∧ (n = xs.length ↔ xs.Nodup)
theorem Some1.keep {P : Program} {w : World} {h g : Heap} {a : Addr} {xs : List Str} {n : Nat} (x : Some1 P w h a xs n) (k : ∀ o, h.get? a = some o → g.get? a = some o) : Some1 P w g a xs n := by
  obtain ⟨⟨o, es, ep, t, ho, rest⟩, r⟩ := x
  exact ⟨⟨o, es, ep, t, k o ho, rest⟩, r⟩
theorem Some1.put {P : Program} {w : World} {h g : Heap} {a : Addr} {xs : List Str} {x : Str} {n : Nat} (d : Some1 P w h a xs n) (e : g.SetOf (PySem.strKind P w) a (fun k => decide (k ∈ xs) || decide (k = x)) (if decide (x ∈ xs) = true then n else n + 1)) :
    ∃ m, Some1 P w g a (xs ++ [x]) m := by
  obtain ⟨_, h1, h2⟩ := d
  refine ⟨_, SetOf_congr e (fun k => by simp [List.mem_append]) rfl, ?_, ?_⟩
  · simp only [decide_eq_true_eq, List.length_append, List.length_singleton]
    split <;> omega
  · simp only [decide_eq_true_eq, List.length_append, List.length_singleton, List.nodup_append]
    by_cases hx : x ∈ xs
    · rw [if_pos hx]
      constructor
      · intro z; omega
      · intro z
        exact absurd rfl (z.2.2 x hx x (by simp))
    · rw [if_neg hx]
      constructor
      · intro z
        exact ⟨h2.mp (by omega), by simp, fun u hu v hv => by simp at hv; subst hv; exact fun q => hx (q ▸ hu)⟩
      · intro z
        have := h2.mpr z.1
        omega
theorem txt_at : ∀ {us : List Value} {xs : List Str}, StrsAre us xs → ∀ (i : Nat) (v : Value), us[i]? = some v → ∃ t x, v = .str x t ∧ xs[i]? = some x
  | _, _, .nil, i, v, h => by simp at h
  | _, _, .cons y t _, 0, v, h => by
    simp at h
    exact ⟨t, y, h.symm, rfl⟩
  | _, _, .cons _ _ r, i + 1, v, h => by
    simp only [List.getElem?_cons_succ] at h ⊢
    exact txt_at r i v h
section
variable {P : Program} {w : World} {A : Around} {R : Result → Shared → Prop} {I : Addr} {fp wr : List Addr} {G : Array GenState → Array GenState → Prop} {n : Nat} {Pv : Nat → Value → Prop} {St : Nat → Shared → Prop}
theorem texts_loop (W : WalksS P w A.in1 I fp wr G n Pv St) (S : Addr) (out : S ∉ fp) (xs : List Str) (hl : xs.length = n) (hb : xs.length + 1 < scanBound) (hv : ∀ i v, Pv i v → ∃ t x, v = .str x t ∧ xs[i]? = some x) :
    ∀ (k i m : Nat) (s : Shared), n - i = k → i ≤ n → St i s → Some1 P w s.heap S (xs.take i) m → (∀ s' m', Moved (S :: wr) G s s' → Some1 P w s'.heap S (xs.take n) m' → R (.ok (.ret .none)) s') →
      codeAny (model P w) A (.builtin "set.update.loop" ⟨[.ref S, .ref I], []⟩) R s := by
  have nw : S ∉ wr := fun z => out (W.sub _ z)
  have up : ∀ b ∈ wr, b ∈ S :: wr := fun b z => List.mem_cons_of_mem _ z
  intro k
  induction k with
  | zero =>
    intro i m s hk hi hst d last
    obtain rfl : i = n := by omega
    refine codeAny_builtin F.entry_set_update_loop ?_
    rw [Around.under_plainId F.plain_set_update_loop _]
    show wpAny _ A.in1 (pyNext (.ref I) >>= _) _ _ s
    refine wpAny_bind (W.done s _ _ hst fun s2 mv => ?_)
    show wpAny _ A.in1 (ret Value.none) _ _ s2
    exact wpAny_pure (last s2 m (mv.mono up) (d.keep fun o e => mv.heap S o nw e))
  | succ k ih =>
    intro i m s hk hi hst d last
    have lt : i < n := by omega
    refine codeAny_builtin F.entry_set_update_loop ?_
    rw [Around.under_plainId F.plain_set_update_loop _]
    show wpAny _ A.in1 (pyNext (.ref I) >>= _) _ _ s
    refine wpAny_bind (W.item i s _ _ lt hst fun v s2 hP st2 mv => ?_)
    obtain ⟨t, x, rfl, hx⟩ := hv i v hP
    have d2 := d.keep (g := s2.heap) fun o e => mv.heap S o nw e
    show wpAny _ A.in1 (holding [Value.str x t] (setAdd S (.str x t)) >>= _) _ _ s2
    refine wpAny_bind (wpAny_holding ?_)
    unfold setAdd
    refine wpAny_holding (wpAny_bind ((PySem.strKind P w).pyHash (k := x) (strKind_is _ _ _ _) ?_))
    have room : m + 1 < scanBound := by
      have a1 := d.2.1
      have a2 := List.length_take_le i xs
      have a3 : (xs.take i).length ≤ xs.length := by rw [List.length_take]; omega
      omega
    refine wpAny_setAddHashed_of (knd := PySem.strKind P w) (s := { s2 with toks := s2.toks + 1 }) (strKind_is _ _ _ _) rfl d2.1 room fun g sb e => ?_
    obtain ⟨m2, d3⟩ := d2.put e
    have tk : xs.take i ++ [x] = xs.take (i + 1) := by
      rw [List.take_succ, hx]
      rfl
    rw [tk] at d3
    refine wpAny_pure ⟨plainId_quiet F.plain_set_update_loop _, ih (i + 1) m2 _ (by omega) lt (W.frame _ s2 _ _ st2 (Nat.le_succ _) fun b hb o e => ?_) d3 fun s3 m3 mv2 d4 => ?_⟩
    · rw [sb.2 b (fun z => out (z ▸ hb))]
      exact e
    · refine last s3 m3 (Moved.trans W.gtrans ((mv.mono up).then_heap (Nat.le_succ _) fun b o hb e => ?_) mv2) d4
      rw [sb.2 b (fun z => hb (z ▸ List.mem_cons_self))]
      exact e
end
section
variable {P : Program} {w : World} {A : Around} {E : Value → Shared → Prop} {s : Shared}

set_option maxHeartbeats 3200000 in
/-- set(l), l a list of texts -/
theorem set_texts_list {l : Addr} {its : Array Value} {xs : List Str} {Q : Value → Shared → Prop} (hh : A.handled = none) (hl : s.heap.IsList l its) (hi : StrsAre its.toList xs) (hb : xs.length + 1 < scanBound)
    (h : ∀ (g : Heap) (tk n : Nat), Some1 P w g s.heap.objs.size xs n → (∀ b o, b < s.heap.objs.size → s.heap.get? b = some o → g.get? b = some o) → Q (.ref s.heap.objs.size) { s with heap := g, toks := tk }) :
    wpAny (model P w) A (call (.type "set") [.ref l]) Q E s := by
  obtain ⟨c, tl, hmro⟩ := PySem.F.called_set.mro
  have f1 := PySem.F.called_set.made
  have f2 := PySem.F.called_set.sub
  have f3 := PySem.F.called_set.notType
  have f4 := PySem.F.called_set.canCreate
  have f5 := PySem.F.typeCall_set_1 (.ref l)
  have nxs : xs.length = its.size := by rw [← StrsAre.len_eq hi, Array.length_toList]
  refine wpAny_call (codeAny_of_tree ?_)
  show wpAny _ _ (callAny (.type "set") _) _ _ _
  refine wpAny_pure ⟨Code.quiet_builtin _ (by decide +kernel), codeAny_builtin PySem.F.entry_type_call ?_⟩
  rw [Around.under_plain (weight_type_call_type "set" [.ref l] []) rfl]
  repeat (any_goals (first | assumption | wp_step))
  let N (b : Bool) : Obj := { cls := .type "set", dict := none, data := .set #[] 0 (.fresh 0 0 b) }
  refine codeAny_mono (code_set_new_1 (.ref l) (E := E) (Q₁ := fun u t => ∃ b : Bool, u = .ref s.heap.objs.size ∧ t = { s with heap := s.heap.push (N b) }) fun b => ⟨b, rfl, rfl⟩) fun r t hr => ?_
  rcases r with _ | (_ | _ | _ | u)
  · exact hr
  · exact hr.elim
  · exact hr.elim
  · exact hr.elim
  obtain ⟨b, rfl, rfl⟩ := hr
  have hN : (s.heap.push (N b)).get? s.heap.objs.size = some (N b) := Heap.get?_push_size _ rfl
  have hT : Shared.TypeIs { s with heap := s.heap.push (N b) } (.ref s.heap.objs.size) "set" := ⟨_, hN, rfl⟩
  have f6 := PySem.F.called_set.init.lookup
  have f7 := PySem.F.called_set.init.bind (.ref s.heap.objs.size)
  repeat (any_goals (first | assumption | wp_step))
  refine codeAny_mono (codeAny_call_builtin (R := wants (fun r t => r = .none ∧ ∃ g tk n, t = { s with heap := g, toks := tk } ∧ Some1 P w g s.heap.objs.size xs n ∧ (∀ b o, b < s.heap.objs.size → s.heap.get? b = some o → g.get? b = some o)) E)
    PySem.F.called_set.init.plain PySem.F.entry_set_init (check_set_init_1 hT ?_)) fun r t hr => ?_
  · obtain ⟨ol, hol, hcl, nl, hdl⟩ := hl
    obtain ⟨oc, od, odt, osl⟩ := ol
    simp only at hcl hdl
    subst hcl; subst hdl
    have hol2 : (s.heap.push (N b)).get? l = some { cls := .type "list", dict := od, data := .seq its nl, slots := osl } := Heap.get?_push_of_some _ hol
    have g1 := PySem.F.sub_list_set
    have g2 := PySem.F.sub_list_frozenset
    have g3 : (Value.type "list" == Value.type "dict") = false := by decide
    have hl1 : (s.heap.push (N b)).IsList l its := ⟨_, hol2, rfl, nl, rfl⟩
    unfold Builtin.«set.__init__» noKeywords Builtin.Frozenset.updateFrom
    generalize hPI : pyIter = PI
    wp_walk
    subst hPI
    refine wpAny_pyIter_list hl1 ?_
    refine wpAny_bind (wpAny_runValue ?_)
    have ll : l < s.heap.objs.size := Heap.lt_size hol
    have zz : (s.heap.push (N b)).objs.size = s.heap.objs.size + 1 := Heap.size_push ..
    refine texts_loop ((Walks.list (by simp [hh]) _ l (by rw [zz]; exact Nat.ne_of_lt (Nat.lt_succ_of_lt ll)) its).toS) s.heap.objs.size (by rw [zz]; simp only [List.mem_cons, List.not_mem_nil, or_false, not_or]; exact ⟨Nat.ne_of_lt (Nat.lt_succ_self _), Nat.ne_of_gt ll⟩) xs nxs hb (fun i v hv => txt_at hi i v (by rw [Array.getElem?_toList]; exact hv)) (its.size - 0) 0 0 _ (by omega) (Nat.zero_le _) ⟨⟨_, Heap.get?_push_size _ rfl, rfl, rfl⟩, hl1.push _⟩ ?_ ?_
    · have hg : ((s.heap.push (N b)).push { cls := .type "list_iterator", data := .fields #[.ref l, .int 0 0] }).get? s.heap.objs.size = some (N b) := Heap.get?_push_of_some _ hN
      refine ⟨?_, by simp, by simp⟩
      exact SetOf_congr ((setObjOf_fresh (knd := PySem.strKind P w) b).setOf hg (by unfold scanBound; omega)) (fun k => by simp) rfl
    · rintro ⟨g, gs, dr, tk, os⟩ n hm hS
      obtain rfl : gs = s.gens := hm.gens
      obtain rfl : dr = s.drawn := hm.drawn
      obtain rfl : os = s.os := hm.os
      show wpAny _ _ _ _ _ _
      refine wpAny_pure ?_
      show wpAny _ _ (ret Value.none) _ _ _
      refine wpAny_pure ⟨rfl, g, tk, n, rfl, by rwa [← nxs, List.take_length] at hS, fun c o hc e => ?_⟩
      exact hm.heap c o (by rw [zz]; simp only [List.mem_cons, List.not_mem_nil, or_false, not_or]; exact ⟨Nat.ne_of_lt hc, Nat.ne_of_lt (Nat.lt_succ_of_lt hc)⟩) (Heap.get?_push_of_some _ (Heap.get?_push_of_some _ e))
  · rcases r with _ | (_ | _ | _ | u)
    · exact hr
    · exact hr.elim
    · exact hr.elim
    · exact hr.elim
    obtain ⟨rfl, g, tk, n, rfl, hS, hk⟩ := hr
    repeat (any_goals (first | assumption | wp_step))
    exact h _ _ _ hS hk

set_option maxHeartbeats 3200000 in
/-- set(l), l a tuple of texts -/
theorem set_texts_tuple {l : Addr} {its : Array Value} {xs : List Str} {Q : Value → Shared → Prop} (hh : A.handled = none) (hl : s.heap.IsTuple l its) (hi : StrsAre its.toList xs) (hb : xs.length + 1 < scanBound)
    (h : ∀ (g : Heap) (tk n : Nat), Some1 P w g s.heap.objs.size xs n → (∀ b o, b < s.heap.objs.size → s.heap.get? b = some o → g.get? b = some o) → Q (.ref s.heap.objs.size) { s with heap := g, toks := tk }) :
    wpAny (model P w) A (call (.type "set") [.ref l]) Q E s := by
  obtain ⟨c, tl, hmro⟩ := PySem.F.called_set.mro
  have f1 := PySem.F.called_set.made
  have f2 := PySem.F.called_set.sub
  have f3 := PySem.F.called_set.notType
  have f4 := PySem.F.called_set.canCreate
  have f5 := PySem.F.typeCall_set_1 (.ref l)
  have nxs : xs.length = its.size := by rw [← StrsAre.len_eq hi, Array.length_toList]
  refine wpAny_call (codeAny_of_tree ?_)
  show wpAny _ _ (callAny (.type "set") _) _ _ _
  refine wpAny_pure ⟨Code.quiet_builtin _ (by decide +kernel), codeAny_builtin PySem.F.entry_type_call ?_⟩
  rw [Around.under_plain (weight_type_call_type "set" [.ref l] []) rfl]
  repeat (any_goals (first | assumption | wp_step))
  let N (b : Bool) : Obj := { cls := .type "set", dict := none, data := .set #[] 0 (.fresh 0 0 b) }
  refine codeAny_mono (code_set_new_1 (.ref l) (E := E) (Q₁ := fun u t => ∃ b : Bool, u = .ref s.heap.objs.size ∧ t = { s with heap := s.heap.push (N b) }) fun b => ⟨b, rfl, rfl⟩) fun r t hr => ?_
  rcases r with _ | (_ | _ | _ | u)
  · exact hr
  · exact hr.elim
  · exact hr.elim
  · exact hr.elim
  obtain ⟨b, rfl, rfl⟩ := hr
  have hN : (s.heap.push (N b)).get? s.heap.objs.size = some (N b) := Heap.get?_push_size _ rfl
  have hT : Shared.TypeIs { s with heap := s.heap.push (N b) } (.ref s.heap.objs.size) "set" := ⟨_, hN, rfl⟩
  have f6 := PySem.F.called_set.init.lookup
  have f7 := PySem.F.called_set.init.bind (.ref s.heap.objs.size)
  repeat (any_goals (first | assumption | wp_step))
  refine codeAny_mono (codeAny_call_builtin (R := wants (fun r t => r = .none ∧ ∃ g tk n, t = { s with heap := g, toks := tk } ∧ Some1 P w g s.heap.objs.size xs n ∧ (∀ b o, b < s.heap.objs.size → s.heap.get? b = some o → g.get? b = some o)) E)
    PySem.F.called_set.init.plain PySem.F.entry_set_init (check_set_init_1 hT ?_)) fun r t hr => ?_
  · obtain ⟨ol, hol, hcl, nl, hdl⟩ := hl
    obtain ⟨oc, od, odt, osl⟩ := ol
    simp only at hcl hdl
    subst hcl; subst hdl
    have hol2 : (s.heap.push (N b)).get? l = some { cls := .type "tuple", dict := od, data := .seq its nl, slots := osl } := Heap.get?_push_of_some _ hol
    have g1 := PySem.F.sub_tuple_set
    have g2 := PySem.F.sub_tuple_frozenset
    have g3 : (Value.type "tuple" == Value.type "dict") = false := by decide
    have hl1 : (s.heap.push (N b)).IsTuple l its := ⟨_, hol2, rfl, nl, rfl⟩
    unfold Builtin.«set.__init__» noKeywords Builtin.Frozenset.updateFrom
    generalize hPI : pyIter = PI
    wp_walk
    subst hPI
    refine wpAny_pyIter_tuple hl1 ?_
    refine wpAny_bind (wpAny_runValue ?_)
    have ll : l < s.heap.objs.size := Heap.lt_size hol
    have zz : (s.heap.push (N b)).objs.size = s.heap.objs.size + 1 := Heap.size_push ..
    refine texts_loop ((Walks.tuple (by simp [hh]) _ l (by rw [zz]; exact Nat.ne_of_lt (Nat.lt_succ_of_lt ll)) its).toS) s.heap.objs.size (by rw [zz]; simp only [List.mem_cons, List.not_mem_nil, or_false, not_or]; exact ⟨Nat.ne_of_lt (Nat.lt_succ_self _), Nat.ne_of_gt ll⟩) xs nxs hb (fun i v hv => txt_at hi i v (by rw [Array.getElem?_toList]; exact hv)) (its.size - 0) 0 0 _ (by omega) (Nat.zero_le _) ⟨⟨_, Heap.get?_push_size _ rfl, rfl, rfl⟩, hl1.push _⟩ ?_ ?_
    · have hg : ((s.heap.push (N b)).push { cls := .type "tuple_iterator", data := .fields #[.ref l, .int 0 0] }).get? s.heap.objs.size = some (N b) := Heap.get?_push_of_some _ hN
      refine ⟨?_, by simp, by simp⟩
      exact SetOf_congr ((setObjOf_fresh (knd := PySem.strKind P w) b).setOf hg (by unfold scanBound; omega)) (fun k => by simp) rfl
    · rintro ⟨g, gs, dr, tk, os⟩ n hm hS
      obtain rfl : gs = s.gens := hm.gens
      obtain rfl : dr = s.drawn := hm.drawn
      obtain rfl : os = s.os := hm.os
      show wpAny _ _ _ _ _ _
      refine wpAny_pure ?_
      show wpAny _ _ (ret Value.none) _ _ _
      refine wpAny_pure ⟨rfl, g, tk, n, rfl, by rwa [← nxs, List.take_length] at hS, fun c o hc e => ?_⟩
      exact hm.heap c o (by rw [zz]; simp only [List.mem_cons, List.not_mem_nil, or_false, not_or]; exact ⟨Nat.ne_of_lt hc, Nat.ne_of_lt (Nat.lt_succ_of_lt hc)⟩) (Heap.get?_push_of_some _ (Heap.get?_push_of_some _ e))
  · rcases r with _ | (_ | _ | _ | u)
    · exact hr
    · exact hr.elim
    · exact hr.elim
    · exact hr.elim
    obtain ⟨rfl, g, tk, n, rfl, hS, hk⟩ := hr
    repeat (any_goals (first | assumption | wp_step))
    exact h _ _ _ hS hk

end
end Gx
namespace Gx
open PySem PySem.Spec PyProof.Rows L2
/-- len(set(xs)), xs a list or a tuple of texts: as many as xs exactly if they are different -/
def tLenSetT (K : PySem.W.Frag) (ta : TE) : TE := fun σ H Q => ta σ H fun x H1 => ∃ (l : Addr) (xs : List Str), x = .ref l ∧ (SqL K H1 l (xs.map V.str) ∨ SqT K H1 l (xs.map V.str)) ∧ xs.length < 1000 ∧ ∀ n : Nat, n ≤ xs.length → (n = xs.length ↔ xs.Nodup) → Q (.int n) H1
theorem txts_of : ∀ {ys : List Str} {us : List Value}, Vals (ys.map V.str) us → StrsAre us ys
  | [], _, .nil => .nil
  | y :: ys, _, .cons r t => by
    obtain ⟨k, rfl⟩ := r
    exact .cons y k (txts_of t)
section
variable {X : Cx}
theorem pe_lenSetT {a : Expr} {ta : TE} {p p2 q pos : Pos} (hc : X.calm = true) (hg : Gl X "len") (hm : X.mg "len" = none) (hg2 : Gl X "set") (hm2 : X.mg "set" = none) (ha : PE X a ta)
    (na : starEach [a] X.env = (false, eval a X.env) :: starEach [] X.env := by rfl) : PE X (.Call (.Name "len" p) [.Call (.Name "set" p2) [a] [] q] [] pos) (tLenSetT X.K ta) := by
  refine ⟨fun pins s σ H Q I h => ?_⟩
  refine Call_ (ld_blt I hg hm boot_len ?_)
  refine callWith_builtin1 (args_cons ?_ rfl) rfl rfl
  refine Call_ (ld_blt I hg2 hm2 boot_set ?_)
  refine callWith_type1 (args_cons (thn (ha.run pins s σ H _ I h) fun v s1 ⟨x, H1, I1, r1, z⟩ => args_nil ?_) na) na rfl
  obtain ⟨l, xs, rfl, hq, few, out⟩ := z
  cases r1
  have fin : ∀ (g : Heap) (tk n : Nat), Some1 X.prog X.w g s1.heap.objs.size xs n → (∀ b o, b < s1.heap.objs.size → s1.heap.get? b = some o → g.get? b = some o) →
      wpAny (model X.prog X.w) X.A (spliced (backTo pos (starEach [] X.env))) (fun vs t => wpAny (model X.prog X.w) X.A (call (.builtin "len") (Value.ref s1.heap.objs.size :: vs)) (EP X pins σ Q) X.xe t) X.xe { s1 with heap := g, toks := tk } := by
    intro g tk n d hk
    obtain ⟨⟨o, es, ep, t, ho, hex, hd, _, _, _, hf, hn⟩, d1, d2⟩ := d
    have I2 : Inv X pins σ H1 { s1 with heap := g, toks := tk } := I1.kept fun b o e => hk b o (Heap.lt_size e) e
    exact args_nil (call_len_set ho hex hd hf (by rw [hn]; omega) ⟨.int n, H1, I2.tok _, ⟨_, by rw [hn]⟩, out n d1 d2⟩)
  have few2 : xs.length + 1 < scanBound := Nat.lt_trans (by omega : xs.length + 1 < 1001) (by decide)
  rcases hq with hq | hq
  · obtain ⟨us, r, pl, _⟩ := I1.list hq
    exact set_texts_list (I1.ok.hd hc) pl.isList (by simpa using txts_of r) few2 fin
  · obtain ⟨us, r, pl, _⟩ := I1.tuple hq
    exact set_texts_tuple (I1.ok.hd hc) pl (by simpa using txts_of r) few2 fin
end
end Gx

/-! methods, instances and constants by name -/
namespace Gx
open PySem PySem.Spec PyProof.Rows L2
section
variable {X : Cx} {x : Str} {pos : Pos}
theorem pe_globI {i : Int} (hg : Gl X x) (h : ∃ t, X.mg x = some (.int i t)) (hd : (x == ("__debug__" : Str)) = false := by decide) : PE X (.Name x pos) (tC (.int i)) := h.elim fun t e => pe_glob (v := .int i) hg e ⟨t, rfl⟩ hd
theorem pe_globS {z : Str} (hg : Gl X x) (h : ∃ t, X.mg x = some (.str z t)) (hd : (x == ("__debug__" : Str)) = false := by decide) : PE X (.Name x pos) (tC (.str z)) := h.elim fun t e => pe_glob (v := .str z) hg e ⟨t, rfl⟩ hd
end
/-! rules whose K is told, for comprehensions -/
section
variable {X : Cx} {K : PySem.W.Frag}
theorem op_in_seqK (h : X.K = K) : OpR X (compareOp .In) (rIn K false) := h ▸ op_in_seq
theorem op_notIn_seqK (h : X.K = K) : OpR X (compareOp .NotIn) (rIn K true) := h ▸ op_notIn_seq
theorem ix_tupK (h : X.K = K) : IxR X (rIxT K) := h ▸ ix_tup
theorem ix_listK (h : X.K = K) : IxR X (rIxL K) := h ▸ ix_list
/-- tuple(x) of a list or a tuple -/
def rTupK (K : PySem.W.Frag) : List V → Hp → VK → Prop := fun xs H Q => ∃ p ys, xs = [.ref p] ∧ ((SqL K H p ys ∧ ∀ l, H l = none → Q (.ref l) (upd H l (.tup ys))) ∨ (SqT K H p ys ∧ Q (.ref p) H))
theorem call_tuple_ofK (h : X.K = K) : CallR X (.type "tuple") (rTupK K) := h ▸ call_tuple_of
end
/-- a method of the class at C, ready to be called -/
structure CaM (P : Program) (w : World) (K : PySem.W.Frag) (mg : Str → Option Value) (base : Heap) (CX : CXT) (k : Nat) (C : Addr) (m : Str) (sp : Sp) : Prop where
  ex : ∃ f fd ps, FnOk P w K mg base CX k f fd ps sp ∧ Binds K fd ps [] ∧ Meth K C m f ∧ Cls K C
/-- a class by its name, its instances made by __init__ -/
structure CaI (P : Program) (w : World) (K : PySem.W.Frag) (mg : Str → Option Value) (base : Heap) (CX : CXT) (k : Nat) (x : Str) (C : Addr) (sp : Sp) : Prop where
  ex : ∃ f fd ps, FnOk P w K mg base CX k f fd ps sp ∧ Binds K fd ps [] ∧ Mk K C f ∧ mg x = some (.ref C)
section
variable {X : Cx} {CX : CXT} {k : Nat} {C : Addr} {m x : Str} {sp : Sp} {E : XK} {o e : Expr} {es : List Expr} {ta : TE} {t : TA} {apos pos p : Pos} {pl : Sem Bool}
theorem pe_cm (c : CaM X.prog X.w X.K X.mg X.base CX k C m sp) (hr : Room k X.A) (hx : Passes CX X E) (ho : PE X o ta) (ha : PA X (e :: es) t)
    (hst : starEach (e :: es) X.env = (false, eval e X.env) :: starEach es X.env := by rfl) (hpl : (backTo pos (starEach es X.env)).any (·.1) = false := by rfl)
    (ht : eval (.Call (.Attribute o m apos) (e :: es) [] pos) X.env = (do
      let ov ← eval o X.env
      standAt apos.atName
      let (f, first) ← holding [ov] (getMethod ov m pl)
      callWith pos f first (backTo pos (starEach (e :: es) X.env)) (backToKw pos (keywordEach [] X.env))) := by rfl) : PE X (.Call (.Attribute o m apos) (e :: es) [] pos) (tMeth C m sp [] E ta t) := by
  obtain ⟨f, fd, ps, F, hb, hm, cl⟩ := c.ex
  exact pe_meth ho cl hm F hr hb .nil hx ha hst hpl ht
/-- .. within a try -/
def tMethS2 (C : Addr) (m : Str) (sp : Sp) (E : L2.St → XK) (ta : TE) (t : TA) : TE := fun σ H Q => ta σ H fun x H1 => ∃ a dx fs, x = .ref a ∧ H1 a = some (.ins C dx fs) ∧ fs.lookup m = none ∧ t σ H1 fun vs H2 => sp (x :: vs) H2 Q (E σ)
theorem pe_cmS {E : L2.St → XK} (c : CaM X.prog X.w X.K X.mg X.base CX k C m sp) (hr : Room k X.A) (hx : ∀ σ, PassesAt CX X σ (E σ)) (ho : PE X o ta) (ha : PA X (e :: es) t)
    (hst : starEach (e :: es) X.env = (false, eval e X.env) :: starEach es X.env := by rfl) (hpl : (backTo pos (starEach es X.env)).any (·.1) = false := by rfl)
    (ht : eval (.Call (.Attribute o m apos) (e :: es) [] pos) X.env = (do
      let ov ← eval o X.env
      standAt apos.atName
      let (f, first) ← holding [ov] (getMethod ov m pl)
      callWith pos f first (backTo pos (starEach (e :: es) X.env)) (backToKw pos (keywordEach [] X.env))) := by rfl) : PE X (.Call (.Attribute o m apos) (e :: es) [] pos) (tMethS2 C m sp E ta t) := by
  obtain ⟨f, fd, ps, F, hb, hm, cl⟩ := c.ex
  refine ⟨fun pins s σ H Q I h => ?_⟩
  refine PySem.W.methodCall_KW (pl := pl) (thn (ho.run pins s σ H _ I h) fun u s1 ⟨x, H1, I1, rx, a, dx, fs, ex, ea, l, q⟩ => ?_) ht
  subst ex
  cases rx
  refine getmeth_ok I1 ea cl hm l ?_
  refine PySem.W.callWith_K (first := [.ref a]) (h₀ := X.base) I.ok.mod.kin hm.kp (thn (ha.run pos pins s1 σ H1 _ I1 q) fun us s2 ⟨vs, H2, I2, r, q2⟩ => ⟨I2.kIn, ?_⟩) hst hpl
  exact run_fnS (us := .ref a :: us) (vs := .ref a :: vs) F hr hb (hx σ) I2 (.cons rfl r) q2
theorem pe_mk (c : CaI X.prog X.w X.K X.mg X.base CX k x C sp) (hr : Room (k + 1) X.A) (hg : Gl X x) (hx : Passes CX X E) (ha : PA X (e :: es) t) (hdb : (x == ("__debug__" : Str)) = false := by decide) (he : starEach (e :: es) X.env = (false, eval e X.env) :: starEach es X.env := by rfl)
    (hpl : (backTo pos (starEach es X.env)).any (·.1) = false := by rfl) : PE X (.Call (.Name x p) (e :: es) [] pos) (tMake C sp [] E t) := by
  obtain ⟨f, fd, ps, F, hb, M, hm⟩ := c.ex
  exact pe_make M F hr hg hm hb .nil hx ha hdb he hpl
end
end Gx

/-! menus as the document has them, and how they lie in the heap -/
namespace Gx
open PySem PySem.Spec PyProof.Rows L2
section
variable {X : Cx} {tg e : Expr}
theorem pi_or {w1 w2 : TI} (h1 : PI X tg e w1) (h2 : PI X tg e w2) : PI X tg e (fun σ H R => w1 σ H R ∨ w2 σ H R) := ⟨fun pins s σ H R I h => h.elim (h1.run pins s σ H R I) (h2.run pins s σ H R I)⟩
end
/-- a comprehension whose turns all give True and leave what was -/
theorem lc_yes {J : It} {xs : List V} {G : Hp → Prop} (w : Walk J xs.length G (YAt xs)) {g : TG} {te : TE} {vs : List Nat} {σ : L2.St} {H1 : Hp} {D : Addr} {Qd : Hp → Prop} (hD : H1 D = none) (hl : xs.length ≤ sizeLine) (hG : ∀ H', Same H1 H' → G H')
    (turn : ∀ x ∈ xs, ∀ (H' : Hp) (R : VK), Same H1 H' → (∀ H3, Same H' H3 → R (.bl true) H3) → g x (wipe σ vs) H' fun σ2 H2 => wipe σ2 vs = wipe σ vs ∧ te σ2 H2 R)
    (done : ∀ H', Same H1 H' → H' D = some (.lst (List.replicate xs.length (.bl true))) → Qd H') :
    ∃ W : Nat → Nat → Hp → Prop, (∃ m, W 0 m (upd H1 D (.lst []))) ∧ ∀ i m H, W i m H →
      (J.stop i H ∧ Qd H) ∨ (J.go i H ∧ ∃ Nx : Hp → Prop, (∀ H', Nx H' → ∃ m', m' < m ∧ W (i + 1) m' H') ∧ ∀ x H', J.yld i H x H' → g x (wipe σ vs) H' fun σ2 H2 => wipe σ2 vs = wipe σ vs ∧ tYes σ2 H2 fun b H3 =>
        if b = true then te σ2 H3 fun y H4 => ∃ acc, H4 D = some (.lst acc) ∧ acc.length < sizeLine ∧ Nx (upd H4 D (.lst (acc ++ [y]))) else Nx H3) := by
  refine lc_it w (tt := tYes) (fun i H' => Same H1 H' ∧ H' D = some (.lst (List.replicate i (.bl true)))) ⟨Same.new hD, upd_same⟩ (fun i H' _ z => hG _ z.1) (fun i x H2 H' hi z y => ?_) (fun H' z => done H' z.1 z.2)
  obtain ⟨rfl, hx⟩ := y
  exact turn x (List.mem_of_getElem? hx) _ _ z.1 fun H3 k => ⟨_, k _ _ z.2, by rw [List.length_replicate]; omega, Same.over (z.1.trans k) hD, by rw [upd_same, List.replicate_succ']⟩
theorem Room.u65 {k : Nat} {A : Around} (r : Room k A) : A.units + 65 < cLine := by have := r.un; omega
theorem Room.u1 {k : Nat} {A : Around} (r : Room k A) : A.units + 1 < cLine := by have := r.un; omega
/-- a list or a tuple of these texts -/
def Sq (K : PySem.W.Frag) (H : Hp) (v : V) (xs : List Str) : Prop := ∃ a, v = .ref a ∧ (SqL K H a (xs.map V.str) ∨ SqT K H a (xs.map V.str))
theorem Sq.same {K : PySem.W.Frag} {H H' : Hp} {v : V} {xs : List Str} (h : Sq K H v xs) (k : Same H H') : Sq K H' v xs := by
  obtain ⟨a, e, h⟩ := h
  exact ⟨a, e, h.imp (SqL.same · k) (SqT.same · k)⟩
theorem tyx_list {K : PySem.W.Frag} {H : Hp} {a : Addr} {xs : List V} (h : SqL K H a xs) : TyX K H (.ref a) (.type "list") := by
  rcases h with (h | ⟨o, h⟩) | ⟨o, _, _, h, c, _⟩
  · exact .base (.lst h)
  · exact .base (.frz h)
  · exact .kList h c
theorem tyx_tup {K : PySem.W.Frag} {H : Hp} {a : Addr} {xs : List V} (h : SqT K H a xs) : TyX K H (.ref a) (.type "tuple") := by
  rcases h with (h | ⟨o, h⟩) | ⟨o, _, _, h, c, _⟩
  · exact .base (.tup h)
  · exact .fTuple h
  · exact .kTuple h c
theorem Sq.ty {K : PySem.W.Frag} {H : Hp} {v : V} {xs : List Str} (h : Sq K H v xs) : ∃ T, TyX K H v T ∧ PySem.W.kitAny K T [.type "list", .type "tuple"] = some true := by
  obtain ⟨a, rfl, h | h⟩ := h
  · exact ⟨_, tyx_list h, kitAny_cons (b := true) (kit_ty (by decide +kernel)) (fun z => nomatch z) (fun _ => rfl)⟩
  · exact ⟨_, tyx_tup h, kitAny_cons (b := false) (kit_ty (by decide +kernel)) (fun _ => kitAny_cons (b := true) (kit_ty (by decide +kernel)) (fun z => nomatch z) (fun _ => rfl)) (fun z => nomatch z)⟩
/-- a plain name -/
def NM (x : Str) : Prop := 1 ≤ x.length ∧ x.length ≤ 8 ∧ ∀ c ∈ x.cps.toList, 97 ≤ c ∧ c ≤ 122
structure Ent where
  name : Str
  wishes : List Str
  back : Str
  later : List Str
  deriving DecidableEq
structure Bs where
  things : List Str
  ws : List Ent
  deriving DecidableEq
def Bs.names (b : Bs) : List Str := b.ws.map Ent.name
structure WE (things names : List Str) (e : Ent) : Prop where
  w : ∀ x ∈ e.wishes, x ∈ things
  wd : e.wishes.Nodup
  l : ∀ x ∈ e.later, x ∈ names
  ld : e.later.Nodup
  l0 : e.later ≠ []
  b : e.back = "top" ∨ e.back = "place"
structure WF (b : Bs) : Prop where
  t1 : 1 ≤ b.things.length
  t5 : b.things.length ≤ 5
  tn : ∀ x ∈ b.things, NM x
  td : b.things.Nodup
  w1 : 1 ≤ b.ws.length
  w4 : b.ws.length ≤ 4
  wn : ∀ x ∈ b.names, NM x
  wd : b.names.Nodup
  we : ∀ e ∈ b.ws, WE b.things b.names e
theorem nodup_len {α : Type} [DecidableEq α] : ∀ {xs ys : List α}, xs.Nodup → (∀ x ∈ xs, x ∈ ys) → xs.length ≤ ys.length
  | [], ys, _, _ => Nat.zero_le _
  | x :: xs, ys, nd, h => by
    rw [List.nodup_cons] at nd
    have hx : x ∈ ys := h x List.mem_cons_self
    have ih := nodup_len (xs := xs) (ys := ys.erase x) nd.2 (fun y hy => by
      have ne : y ≠ x := fun e => nd.1 (by rw [← e]; exact hy)
      exact (List.mem_erase_of_ne ne).mpr (h y (List.mem_cons_of_mem _ hy)))
    rw [List.length_erase_of_mem hx] at ih
    have := List.length_pos_of_mem hx
    simp only [List.length_cons]
    omega
/-- a weather's entry as it is handed in: (wishes, back, later) -/
def EntAt (K : PySem.W.Frag) (H : Hp) (v : V) (e : Ent) : Prop := ∃ (t : Addr) (w l : V), v = .ref t ∧ SqT K H t [w, .str e.back, l] ∧ Sq K H w e.wishes ∧ Sq K H l e.later
theorem EntAt.same {K : PySem.W.Frag} {H H' : Hp} {v : V} {e : Ent} (h : EntAt K H v e) (k : Same H H') : EntAt K H' v e := by
  obtain ⟨t, w, l, rfl, h1, h2, h3⟩ := h
  exact ⟨t, w, l, rfl, SqT.same h1 k, h2.same k, h3.same k⟩
/-- a dict's pairs: names to entries -/
def EntsAt (K : PySem.W.Frag) (H : Hp) (kvs : List (Key × V)) (ws : List Ent) : Prop := Paired (fun (p : Key × V) (e : Ent) => p.1 = .inr e.name ∧ EntAt K H p.2 e) kvs ws
theorem Paired.imp2 {α β : Type} {R S : α → β → Prop} (f : ∀ a b, R a b → S a b) : ∀ {xs : List α} {ys : List β}, Paired R xs ys → Paired S xs ys
  | _, _, .nil => .nil
  | _, _, .cons h t => .cons (f _ _ h) (Paired.imp2 f t)
theorem EntsAt.same {K : PySem.W.Frag} {H H' : Hp} {kvs : List (Key × V)} {ws : List Ent} (h : EntsAt K H kvs ws) (k : Same H H') : EntsAt K H' kvs ws := Paired.imp2 (fun _ _ q => ⟨q.1, q.2.same k⟩) h
theorem Paired.at2 {α β : Type} {R : α → β → Prop} : ∀ {xs : List α} {ys : List β}, Paired R xs ys → ∀ {i : Nat} {x : α}, xs[i]? = some x → ∃ y, ys[i]? = some y ∧ R x y
  | _, _, .nil, i, x, h => by simp at h
  | _, _, .cons h t, 0, x, e => by
    simp at e
    subst e
    exact ⟨_, rfl, h⟩
  | _, _, .cons h t, i + 1, x, e => by
    simp only [List.getElem?_cons_succ] at e ⊢
    exact Paired.at2 t e
theorem EntsAt.keys {K : PySem.W.Frag} {H : Hp} : ∀ {kvs : List (Key × V)} {ws : List Ent}, EntsAt K H kvs ws → kvs.map (·.1) = ws.map (fun e => Sum.inr e.name)
  | _, _, .nil => rfl
  | _, _, .cons h t => by simp [h.1, EntsAt.keys t]
/-- wishes or later ones, told: names to tuples of texts -/
def TupsAt (K : PySem.W.Frag) (H : Hp) (kvs : List (Key × V)) (ps : List (Str × List Str)) : Prop := Paired (fun (p : Key × V) (e : Str × List Str) => p.1 = .inr e.1 ∧ ∃ a, p.2 = .ref a ∧ SqT K H a (e.2.map V.str)) kvs ps
theorem TupsAt.same {K : PySem.W.Frag} {H H' : Hp} {kvs : List (Key × V)} {ps : List (Str × List Str)} (h : TupsAt K H kvs ps) (k : Same H H') : TupsAt K H' kvs ps := Paired.imp2 (fun _ _ ⟨q, a, e, z⟩ => ⟨q, a, e, SqT.same z k⟩) h
/-- the menu at m is b -/
def IsM (K : PySem.W.Frag) (H : Hp) (m : Addr) (b : Bs) : Prop := ∃ (dx t1 t2 d1 d2 d3 : Addr) (k1 k3 : List (Key × V)),
  H m = some (.ins (He.ga K "Menu") dx [("_things", .ref t1), ("_weathers", .ref t2), ("_wishes", .ref d1), ("_back", .ref d2), ("_later", .ref d3)]) ∧ H dx = some (.own m) ∧ SqT K H t1 (b.things.map V.str) ∧ SqT K H t2 (b.names.map V.str) ∧
  H d1 = some (.dK k1) ∧ TupsAt K H k1 (b.ws.map fun e => (e.name, e.wishes)) ∧ H d2 = some (.dK (b.ws.map fun e => (.inr e.name, .str e.back))) ∧ H d3 = some (.dK k3) ∧ TupsAt K H k3 (b.ws.map fun e => (e.name, e.later))
theorem IsM.same {K : PySem.W.Frag} {H H' : Hp} {m : Addr} {b : Bs} (h : IsM K H m b) (k : Same H H') : IsM K H' m b := by
  obtain ⟨dx, t1, t2, d1, d2, d3, k1, k3, h1, h0, h2, h3, h4, h5, h6, h7, h8⟩ := h
  exact ⟨dx, t1, t2, d1, d2, d3, k1, k3, k _ _ h1, k _ _ h0, SqT.same h2 k, SqT.same h3 k, k _ _ h4, h5.same k, k _ _ h6, k _ _ h7, h8.same k⟩
/-! the promises of the program's defs, for what is right -/
def spIsName : Sp := fun vs H Q _ => ∃ x, vs = [.str x] ∧ NM x ∧ ∀ H', Same H H' → Q (.bl true) H'
def spDiff (K : PySem.W.Frag) : Sp := fun vs H Q _ => ∃ v xs, vs = [v] ∧ Sq K H v xs ∧ xs.length < 1000 ∧ xs.Nodup ∧ Q (.bl true) H
def spThings (K : PySem.W.Frag) : Sp := fun vs H Q _ => ∃ v xs, vs = [v] ∧ Sq K H v xs ∧ 1 ≤ xs.length ∧ xs.length ≤ 5 ∧ (∀ x ∈ xs, NM x) ∧ xs.Nodup ∧ ∀ H', Same H H' → Q (.bl true) H'
def spRow (K : PySem.W.Frag) : Sp := fun vs H Q _ => ∃ v ns xs ys, vs = [v, ns] ∧ Sq K H v xs ∧ Sq K H ns ys ∧ ys.length < 1000 ∧ (∀ x ∈ xs, x ∈ ys) ∧ xs.Nodup ∧ ∀ H', Same H H' → Q (.bl true) H'
def spEntry (K : PySem.W.Frag) : Sp := fun vs H Q _ => ∃ v tv wv e ts ns, vs = [v, tv, wv] ∧ EntAt K H v e ∧ Sq K H tv ts ∧ Sq K H wv ns ∧ ts.length < 1000 ∧ ns.length < 1000 ∧ WE ts ns e ∧ ∀ H', Same H H' → Q (.bl true) H'
def spWeathers (K : PySem.W.Frag) : Sp := fun vs H Q _ => ∃ d tv b kvs, vs = [.ref d, tv] ∧ H d = some (.dK kvs) ∧ EntsAt K H kvs b.ws ∧ Sq K H tv b.things ∧ WF b ∧ ∀ H', Same H H' → Q (.bl true) H'
end Gx

/-! what stays when one object is written; dict comprehensions over a dict of names; how a menu is made -/
namespace Gx
open PySem PySem.Spec PyProof.Rows L2
/-- all but m stays -/
def Kp (m : Addr) (H H' : Hp) : Prop := ∀ a o, a ≠ m → H a = some o → H' a = some o
theorem Same.kp {m : Addr} {H H' : Hp} (k : Same H H') : Kp m H H' := fun a o _ e => k a o e
theorem Kp.put {m : Addr} {H : Hp} {o : HO} : Kp m H (upd H m o) := fun a u n e => by rw [upd_ne n]; exact e
theorem Kp.trans {m : Addr} {H H' H'' : Hp} (k : Kp m H H') (k' : Kp m H' H'') : Kp m H H'' := fun a o n e => k' a o n (k a o n e)
/-- no list and no tuple at m -/
def NoSq (H : Hp) (m : Addr) : Prop := ∀ xs, ¬ Rd H m (.lst xs) ∧ ¬ Rd H m (.tup xs)
theorem NoSq.ins {H : Hp} {m C dx : Addr} {fs : List (Str × V)} (e : H m = some (.ins C dx fs)) : NoSq H m := fun xs => by
  refine ⟨fun z => ?_, fun z => ?_⟩ <;> (rcases z with z | ⟨o2, z⟩ <;> (rw [e] at z; cases z))
theorem NoSq.dK {H : Hp} {m : Addr} {kvs : List (Key × V)} (e : H m = some (.dK kvs)) : NoSq H m := fun xs => by
  refine ⟨fun z => ?_, fun z => ?_⟩ <;> (rcases z with z | ⟨o2, z⟩ <;> (rw [e] at z; cases z))
theorem NoSq.fdK {H : Hp} {m : Addr} {o : Obj} {kvs : List (Key × V)} (e : H m = some (.frz o (.dK kvs))) : NoSq H m := fun xs => by
  refine ⟨fun z => ?_, fun z => ?_⟩ <;> (rcases z with z | ⟨o2, z⟩ <;> (rw [e] at z; cases z))
section
variable {K : PySem.W.Frag} {m : Addr} {H H' : Hp}
theorem SqT.kp {a : Addr} {xs : List V} (h : SqT K H a xs) (k : Kp m H H') (n : NoSq H m) : SqT K H' a xs := by
  rcases h with h | h
  · have ne : a ≠ m := fun e => (n xs).2 (e ▸ h)
    rcases h with h | ⟨o, h⟩
    · exact .inl (.inl (k _ _ ne h))
    · exact .inl (.inr ⟨o, k _ _ ne h⟩)
  · exact .inr h
theorem SqL.kp {a : Addr} {xs : List V} (h : SqL K H a xs) (k : Kp m H H') (n : NoSq H m) : SqL K H' a xs := by
  rcases h with h | h
  · have ne : a ≠ m := fun e => (n xs).1 (e ▸ h)
    rcases h with h | ⟨o, h⟩
    · exact .inl (.inl (k _ _ ne h))
    · exact .inl (.inr ⟨o, k _ _ ne h⟩)
  · exact .inr h
theorem Sq.kp {v : V} {xs : List Str} (h : Sq K H v xs) (k : Kp m H H') (n : NoSq H m) : Sq K H' v xs := by
  obtain ⟨a, e, h⟩ := h
  exact ⟨a, e, h.imp (SqL.kp · k n) (SqT.kp · k n)⟩
theorem EntAt.kp {v : V} {e : Ent} (h : EntAt K H v e) (k : Kp m H H') (n : NoSq H m) : EntAt K H' v e := by
  obtain ⟨t, w, l, rfl, h1, h2, h3⟩ := h
  exact ⟨t, w, l, rfl, SqT.kp h1 k n, h2.kp k n, h3.kp k n⟩
theorem EntsAt.kp {kvs : List (Key × V)} {ws : List Ent} (h : EntsAt K H kvs ws) (k : Kp m H H') (n : NoSq H m) : EntsAt K H' kvs ws := Paired.imp2 (fun _ _ q => ⟨q.1, q.2.kp k n⟩) h
theorem TupsAt.kp {kvs : List (Key × V)} {ps : List (Str × List Str)} (h : TupsAt K H kvs ps) (k : Kp m H H') (n : NoSq H m) : TupsAt K H' kvs ps := Paired.imp2 (fun _ _ ⟨q, a, e, z⟩ => ⟨q, a, e, SqT.kp z k n⟩) h
/-- tuple(v), v a list or a tuple of texts -/
theorem tupOf {v : V} {xs : List Str} {R : VK} (h : Sq K H v xs) (r : ∀ t H3, Same H H3 → SqT K H3 t (xs.map V.str) → R (.ref t) H3) :
    rTupK K [v] H R := by
  obtain ⟨a, rfl, h | h⟩ := h
  · exact ⟨a, _, rfl, .inl ⟨h, fun l hl => r l _ (Same.new hl) (.inl (.inl upd_same))⟩⟩
  · exact ⟨a, _, rfl, .inr ⟨h, r a _ (Same.refl _) h⟩⟩
theorem unlock {d : Addr} {od : Obj} {u : HO} (k : Same (upd H d (.frz od u)) H') (e : H d = some u) : Same H (upd H' d u) := fun b o h => by
  by_cases hb : b = d
  · subst hb
    rw [upd_same, ← e, h]
  · rw [upd_ne hb]
    exact k b o (by rw [upd_ne hb]; exact h)
end
theorem nodup_inj {α : Type} : ∀ {xs : List α} {i j : Nat} {x : α}, xs.Nodup → xs[i]? = some x → xs[j]? = some x → i = j
  | [], i, j, x, _, h, _ => by simp at h
  | a :: xs, 0, 0, x, _, _, _ => rfl
  | a :: xs, 0, j + 1, x, nd, h1, h2 => by
    simp at h1 h2
    subst h1
    exact absurd (List.mem_of_getElem? h2) (List.nodup_cons.mp nd).1
  | a :: xs, i + 1, 0, x, nd, h1, h2 => by
    simp at h1 h2
    subst h2
    exact absurd (List.mem_of_getElem? h1) (List.nodup_cons.mp nd).1
  | a :: xs, i + 1, j + 1, x, nd, h1, h2 => by
    simp only [List.getElem?_cons_succ] at h1 h2
    rw [nodup_inj (List.nodup_cons.mp nd).2 h1 h2]
theorem putK_new {ks : List (Key × V)} {k : Key} {v : V} (h : k ∉ ks.map (·.1)) : putK ks k v = ks ++ [(k, v)] := by
  unfold putK
  rw [if_neg]
  rw [List.any_eq_true]
  rintro ⟨p, hp, e⟩
  exact h (List.mem_map.mpr ⟨p, hp, of_decide_eq_true e⟩)
theorem Paired.map1 {R : Key × V → Ent → Prop} (h : ∀ p e, R p e → p.1 = .inr e.name) : ∀ {xs : List (Key × V)} {ys : List Ent}, Paired R xs ys → xs.map (·.1) = (ys.map Ent.name).map Sum.inr
  | _, _, .nil => rfl
  | _, _, .cons q t => by simp [h _ _ q, Paired.map1 h t]
/-- a dict comprehension over a locked dict of entries -/
theorem dc_ents {kvs : List (Key × V)} {ws : List Ent} (hk : kvs.map (·.1) = ws.map (fun e => Sum.inr e.name)) (nd : (ws.map Ent.name).Nodup) (few : ws.length < 1000) {d D : Addr} {od : Obj} {H1 : Hp} (hl : H1 d = some (.frz od (.dK kvs))) (hD : H1 D = none)
    {g : TG} {tk tv : TE} {vs : List Nat} {σ : L2.St} {Qd : Hp → Prop} (Pz : Hp → V → Ent → Prop) (mono : ∀ H H' z e, Kp D H H' → (∃ acc, H D = some (.dK acc)) → Pz H z e → Pz H' z e)
    (turn : ∀ e ∈ ws, ∀ (H' : Hp) (R : V → VK), Same H1 H' → (∀ z H3, Same H' H3 → Pz H3 z e → R (.str e.name) z H3) → g (.str e.name) (wipe σ vs) H' fun σ2 H2 => wipe σ2 vs = wipe σ vs ∧ tk σ2 H2 fun y H4 => tv σ2 H4 (R y))
    (done : ∀ H' acc, Same H1 H' → H' D = some (.dK acc) → Paired (fun (p : Key × V) (e : Ent) => p.1 = .inr e.name ∧ Pz H' p.2 e) acc ws → Qd H') :
    ∃ W : Nat → Nat → Hp → Prop, (∃ m, W 0 m (upd H1 D (.dK []))) ∧ ∀ i m H, W i m H →
      ((Itk d od kvs).stop i H ∧ Qd H) ∨ ((Itk d od kvs).go i H ∧ ∃ Nx : Hp → Prop, (∀ H', Nx H' → ∃ m', m' < m ∧ W (i + 1) m' H') ∧ ∀ x H', (Itk d od kvs).yld i H x H' → g x (wipe σ vs) H' fun σ2 H2 => wipe σ2 vs = wipe σ vs ∧ tYes σ2 H2 fun b H3 =>
        if b = true then tk σ2 H3 fun y H4 => tv σ2 H4 fun z H5 => ∃ kvs k, y = kV k ∧ H5 D = some (.dK kvs) ∧ kvs.length < sizeLine ∧ Nx (upd H5 D (.dK (putK kvs k z))) else Nx H3) := by
  have hlen : kvs.length = ws.length := by simpa using congrArg List.length hk
  refine dc_it walk_keys (tt := tYes) (fun i H' => Same H1 H' ∧ ∃ acc, H' D = some (.dK acc) ∧ Paired (fun (p : Key × V) (e : Ent) => p.1 = .inr e.name ∧ Pz H' p.2 e) acc (ws.take i)) ⟨Same.new hD, [], upd_same, by rw [List.take_zero]; exact .nil⟩ (fun i H' _ z => z.1 _ _ hl) (fun i x H2 H' hi z y => ?_)
    (fun H' z => by
      obtain ⟨s, acc, e, p⟩ := z
      rw [hlen, List.take_length] at p
      exact done H' acc s e p)
  obtain ⟨rfl, k, v, hkv, rfl⟩ := y
  obtain ⟨s, acc, e, p⟩ := z
  have hi2 : i < ws.length := by omega
  have ei : ws[i]? = some ws[i] := List.getElem?_eq_getElem hi2
  have ek : k = .inr ws[i].name := by
    have h1 : (kvs.map (·.1))[i]? = some k := by rw [List.getElem?_map, hkv]; rfl
    rw [hk, List.getElem?_map, ei] at h1
    exact (Option.some.inj h1).symm
  subst ek
  have R := turn ws[i] (List.getElem_mem hi2) H' (fun y z H5 => ∃ kvs k, y = kV k ∧ H5 D = some (.dK kvs) ∧ kvs.length < sizeLine ∧ (Same H1 (upd H5 D (.dK (putK kvs k z))) ∧ ∃ acc, (upd H5 D (.dK (putK kvs k z))) D = some (.dK acc) ∧ Paired (fun (p : Key × V) (e : Ent) => p.1 = .inr e.name ∧ Pz (upd H5 D (.dK (putK kvs k z))) p.2 e) acc (ws.take (i + 1)))) s (fun z H3 k3 pz => ?_)
  · exact R
  · have la : acc.length = i := by rw [Paired.length p, List.length_take]; omega
    have fresh : (Sum.inr ws[i].name : Key) ∉ acc.map (·.1) := by
      rw [Paired.map1 (fun _ _ q => q.1) p]
      intro hm
      obtain ⟨nm, h1, h2⟩ := List.mem_map.mp hm
      cases h2
      rw [List.map_take] at h1
      obtain ⟨j, hj, ej⟩ := List.mem_iff_getElem.mp h1
      have lj : j < i := by
        rw [List.length_take] at hj
        omega
      rw [List.getElem_take] at ej
      have e1 : (ws.map Ent.name)[j]? = some ws[i].name := by
        rw [List.getElem?_eq_getElem (by rw [List.length_map]; omega), ej]
      have e2 : (ws.map Ent.name)[i]? = some ws[i].name := by rw [List.getElem?_map, ei]; rfl
      have := nodup_inj nd e1 e2
      omega
    refine ⟨acc, .inr ws[i].name, rfl, k3 _ _ e, by rw [la]; exact Nat.lt_of_lt_of_le (by omega : i < 1000) (by decide), Same.over (s.trans k3) hD, _, upd_same, ?_⟩
    rw [putK_new fresh, List.take_succ, ei]
    have st : ∀ z e, Pz H3 z e → Pz (upd H3 D (.dK (acc ++ [(Sum.inr ws[i].name, z)]))) z e := fun z e h => mono _ _ _ _ Kp.put ⟨acc, k3 _ _ ‹_›⟩ h
    have hd3 : H3 D = some (.dK acc) := k3 _ _ e
    refine Paired.snoc (Paired.imp2 (fun a b q => ⟨q.1, mono _ _ _ _ Kp.put ⟨acc, hd3⟩ (mono _ _ _ _ (Same.kp k3) ⟨acc, e⟩ q.2)⟩) p) ⟨rfl, mono _ _ _ _ Kp.put ⟨acc, hd3⟩ pz⟩
end Gx

/-! an error of the program raised; what the menu's methods promise -/
namespace Gx
open PySem PySem.Spec PyProof.Rows L2
section
variable {X : Cx} {x f : Str} {C : Addr} {p pos : Pos} {e : Expr} {t : TA}
theorem pmk_exV (Z' : ∃ fI fd, ExK X.prog X.w X.K X.mg X.base x C f fI fd) (hr : Room 2 X.A) (hg : Gl X x) (ha : PA X [e] t) (hdb : (x == ("__debug__" : Str)) = false := by decide) (he : starEach [e] X.env = (false, eval e X.env) :: starEach [] X.env := by rfl)
    (hpl : (backTo pos (starEach [] X.env)).any (·.1) = false := by rfl) : PMk X (.Call (.Name x p) [e] [] pos) (tMkO C (spExI C f) [] t) := by
  obtain ⟨fI, fd, Z⟩ := Z'
  exact pmk_oex Z.T Z.i Z.t Z.F hr Z.b .nil pass0 hg Z.g ha hdb he hpl
end
/-- no weather of the menu b -/
def BadX (K : PySem.W.Frag) (H : Hp) (b : Bs) (x : V) : Prop := NoStr K H x ∨ ∃ z, x = .str z ∧ z ∉ b.names
/-- the way out by BadWeather -/
def OutW (K : PySem.W.Frag) (H : Hp) (x : V) (E : XK) : Prop := ∀ d H', H d = none → Same H H' → H' d = some (.xd [("value", x)]) → E (.ref (He.ga K "BadWeather")) (some d) H'
/-- the heap behind a raised error, laid out -/
theorem raised {H : Hp} {a d C : Addr} {v : V} (na : H a = none) (nd : H d = none) (ne : d ≠ a) {E : XK} (h : ∀ H', Same H H' → H' d = some (.xd [("value", v)]) → E (.ref C) (some d) H') :
    E (.ref C) (some d) (upd (del (upd (upd (upd H a (exo a C none)) d (exd d [("value", v)])) a (exo a C (some d))) a) d (.xd [("value", v)])) := by
  refine h _ (fun b o e => ?_) upd_same
  have b1 : b ≠ d := ne_of_none e nd
  have b2 : b ≠ a := ne_of_none e na
  rw [upd_ne b1, del_ne b2, upd_ne b2, upd_ne b1, upd_ne b2]
  exact e
def spCheck (K : PySem.W.Frag) : Sp := fun vs H Q E => ∃ m b x, vs = [.ref m, x] ∧ IsM K H m b ∧ ((∃ z, x = .str z ∧ z ∈ b.names ∧ Q .non H) ∨ (BadX K H b x ∧ OutW K H x E))
def spWishes (K : PySem.W.Frag) : Sp := fun vs H Q E => ∃ m b x, vs = [.ref m, x] ∧ IsM K H m b ∧ b.names.Nodup ∧ ((∃ e ∈ b.ws, x = .str e.name ∧ ∀ p, H p = none → Q (.ref p) (upd H p (.lst (e.wishes.map V.str)))) ∨ (BadX K H b x ∧ OutW K H x E))
def spLater (K : PySem.W.Frag) : Sp := fun vs H Q E => ∃ m b x, vs = [.ref m, x] ∧ IsM K H m b ∧ b.names.Nodup ∧ ((∃ e ∈ b.ws, x = .str e.name ∧ ∀ p, H p = none → Q (.ref p) (upd H p (.lst (e.later.map V.str)))) ∨ (BadX K H b x ∧ OutW K H x E))
def spBack (K : PySem.W.Frag) : Sp := fun vs H Q E => ∃ m b x, vs = [.ref m, x] ∧ IsM K H m b ∧ b.names.Nodup ∧ ((∃ e ∈ b.ws, x = .str e.name ∧ Q (.str e.back) H) ∨ (BadX K H b x ∧ OutW K H x E))
theorem TupsAt.keys {K : PySem.W.Frag} {H : Hp} : ∀ {kvs : List (Key × V)} {ps : List (Str × List Str)}, TupsAt K H kvs ps → kvs.map (·.1) = (ps.map (·.1)).map Sum.inr
  | _, _, .nil => rfl
  | _, _, .cons h t => by simp [h.1, TupsAt.keys t]
theorem nodup_inr {xs : List Str} (h : xs.Nodup) : (xs.map (Sum.inr : Str → Key)).Nodup := List.Pairwise.map _ (fun a b n e => n (Sum.inr.inj e)) h
/-- what such a dict holds at a name -/
theorem TupsAt.get {K : PySem.W.Frag} {H : Hp} {kvs : List (Key × V)} {ws : List Ent} {f : Ent → List Str} (h : TupsAt K H kvs (ws.map fun e => (e.name, f e))) (nd : (ws.map Ent.name).Nodup) {e : Ent} (he : e ∈ ws) :
    ∃ a, valV kvs (.inr e.name) = some (.ref a) ∧ SqT K H a ((f e).map V.str) := by
  obtain ⟨i, hi, ei⟩ := List.mem_iff_getElem.mp he
  have hl : kvs.length = ws.length := by
    have := Paired.length h
    simpa using this
  have eki : kvs[i]? = some (kvs[i]'(by omega)) := List.getElem?_eq_getElem (by omega)
  obtain ⟨y, f1, f2, a, f3, f4⟩ := Paired.at2 h eki
  rw [List.getElem?_map, List.getElem?_eq_getElem hi, ei] at f1
  cases f1
  refine ⟨a, ?_, f4⟩
  have ndk : (kvs.map (·.1)).Nodup := by
    have e2 : (ws.map fun e => (e.name, f e)).map (·.1) = ws.map Ent.name := by rw [List.map_map]; rfl
    rw [h.keys, e2]
    exact nodup_inr nd
  rw [← f3]
  exact valV_at (i := i) ndk (by rw [eki, ← f2])
theorem back_get {ws : List Ent} (nd : (ws.map Ent.name).Nodup) {e : Ent} (he : e ∈ ws) : valV (ws.map fun e => ((Sum.inr e.name : Key), V.str e.back)) (.inr e.name) = some (.str e.back) := by
  obtain ⟨i, hi, ei⟩ := List.mem_iff_getElem.mp he
  refine valV_at (i := i) ?_ ?_
  · rw [List.map_map]
    have := nodup_inr nd
    rwa [List.map_map] at this
  · rw [List.getElem?_map, List.getElem?_eq_getElem hi, ei]
    rfl
end Gx

/-! equality of menus -/
namespace Gx
open PySem PySem.Spec PyProof.Rows L2
/-- what is asked of an own class by its name, its instances compared and looked at -/
def instB (K : PySem.W.Frag) (x : Str) : Bool :=
  decide (PySem.W.findIn K (.ref (He.ga K x)) "__class__" = some (some (.builtin "object.__class__"))) && (decide (PySem.W.specialIn K (.builtin "object.__class__") "__get__" = some (some (.builtin "getset_descriptor.__get__"))) && (decide (PySem.W.takesIn K (.builtin "object.__class__") = some true) &&
  (decide (PySem.W.mroIn K (He.ga K x) (.type "object") = some true) && (decide (PySem.W.kitOne K (.ref (He.ga K x)) (.ref (He.ga K x)) = some true) && (PySem.W.notFirst K (He.ga K x) (.ref (He.ga K x)) &&
  (decide (PySem.W.findIn K (.ref (He.ga K x)) "__ne__" = some (some (.builtin "object.__ne__"))) && decide (PySem.W.subIn K (.ref (He.ga K x)) (.type "object") = some true)))))))
structure InstB (K : PySem.W.Frag) (x : Str) : Prop where
  ha : PySem.W.findIn K (.ref (He.ga K x)) "__class__" = some (some (.builtin "object.__class__"))
  hn : PySem.W.specialIn K (.builtin "object.__class__") "__get__" = some (some (.builtin "getset_descriptor.__get__"))
  ht : PySem.W.takesIn K (.builtin "object.__class__") = some true
  hm : PySem.W.mroIn K (He.ga K x) (.type "object") = some true
  kit : PySem.W.kitOne K (.ref (He.ga K x)) (.ref (He.ga K x)) = some true
  first : PySem.W.notFirst K (He.ga K x) (.ref (He.ga K x)) = true
  ne : PySem.W.findIn K (.ref (He.ga K x)) "__ne__" = some (some (.builtin "object.__ne__"))
  obj : PySem.W.subIn K (.ref (He.ga K x)) (.type "object") = some true
theorem instB_ok {K : PySem.W.Frag} {x : Str} (h : instB K x = true) : InstB K x := by
  simp only [instB, Bool.and_eq_true, decide_eq_true_eq] at h
  obtain ⟨h1, h2, h3, h4, h5, h6, h7, h8⟩ := h
  exact ⟨h1, h2, h3, h4, h5, h6, h7, h8⟩
theorem InstB.ty {K : PySem.W.Frag} {x : Str} (B : InstB K x) (c : Cls K (He.ga K x)) {H : Hp} {a dx : Addr} {fs : List (Str × V)} (e : H a = some (.ins (He.ga K x) dx fs)) : TyX K H (.ref a) (.ref (He.ga K x)) := .base (.ins e c B.ha B.hn B.ht B.hm)
def okS (x : Str) : Prop := PyData.strOk x = true
theorem NM.ok {x : Str} (h : NM x) : okS x := by
  unfold okS PyData.strOk
  rw [Array.all_eq_true]
  intro i hi
  have := h.2.2 (x.cps[i]) (by simp)
  simp only [decide_eq_true_eq]
  omega
def dT (xs : List Str) : PyData := .tuple (xs.map .str)
theorem lay_str : ∀ {xs : List Str}, (∀ x ∈ xs, okS x) → PyData.canLayAll0 (xs.map .str) = true
  | [], _ => by simp [PyData.canLayAll0]
  | x :: xs, h => by
    simp only [List.map_cons, PyData.canLayAll0, PyData.canLay0, Bool.and_eq_true]
    exact ⟨h x List.mem_cons_self, lay_str fun y hy => h y (List.mem_cons_of_mem _ hy)⟩
theorem depth_str : ∀ xs : List Str, PyData.depthAll (xs.map .str) = 0
  | [] => by simp [PyData.depthAll]
  | x :: xs => by simp [PyData.depthAll, PyData.depth, depth_str xs]
theorem shape_t {xs : List Str} (h : ∀ x ∈ xs, okS x) : SeqAt.shaped (dT xs) = true := by
  unfold SeqAt.shaped dT
  rw [Bool.and_eq_true]
  refine ⟨by simp only [PyData.canLay0]; exact lay_str h, decide_eq_true ?_⟩
  simp only [PyData.depth, depth_str]
  omega
theorem shape_s {x : Str} (h : okS x) : SeqAt.shaped (.str x) = true := by
  unfold SeqAt.shaped
  rw [Bool.and_eq_true]
  refine ⟨by simp only [PyData.canLay0]; exact h, decide_eq_true ?_⟩
  simp only [PyData.depth]
  omega
theorem beq_str (x y : Str) : (x == y) = decide (x = y) := by
  by_cases h : x = y
  · subst h; simp
  · rw [decide_eq_false h]; exact beq_eq_false_iff_ne.mpr h
theorem eqv_strs : ∀ xs ys : List Str, PyData.eqvAll (xs.map .str) (ys.map .str) = decide (xs = ys)
  | [], [] => by simp [PyData.eqvAll]
  | [], _ :: _ => by simp [PyData.eqvAll]
  | _ :: _, [] => by simp [PyData.eqvAll]
  | x :: xs, y :: ys => by
    have e : PyData.eqvAll ((x :: xs).map .str) ((y :: ys).map .str) = ((x == y) && PyData.eqvAll (xs.map .str) (ys.map .str)) := by simp only [List.map_cons, PyData.eqvAll, PyData.eqv]
    rw [e, eqv_strs xs ys, beq_str]
    simp
theorem eqv_t (xs ys : List Str) : PyData.eqv (dT xs) (dT ys) = decide (xs = ys) := by
  unfold dT
  simp only [PyData.eqv]
  exact eqv_strs xs ys
theorem eqv_ts : ∀ xs ys : List (List Str), PyData.eqvAll (xs.map dT) (ys.map dT) = decide (xs = ys)
  | [], [] => by simp [PyData.eqvAll]
  | [], _ :: _ => by simp [PyData.eqvAll]
  | _ :: _, [] => by simp [PyData.eqvAll]
  | x :: xs, y :: ys => by
    have e : PyData.eqvAll ((x :: xs).map dT) ((y :: ys).map dT) = (PyData.eqv (dT x) (dT y) && PyData.eqvAll (xs.map dT) (ys.map dT)) := by simp only [List.map_cons, PyData.eqvAll]
    rw [e, eqv_ts xs ys, eqv_t]
    simp
section
variable {K : PySem.W.Frag} {H : Hp}
theorem dp_strs : ∀ xs : List Str, DpAll K H (xs.map V.str) (xs.map .str)
  | [] => .nil
  | x :: xs => .cons (.str x) (dp_strs xs)
theorem dp_t {a : Addr} {xs : List Str} (h : SqT K H a (xs.map V.str)) : Dp K H (.ref a) (dT xs) := .tup h (dp_strs xs)
theorem TupsAt.dp : ∀ {kvs : List (Key × V)} {ps : List (Str × List Str)}, TupsAt K H kvs ps → DpAll K H (kvs.map (·.2)) (ps.map fun p => dT p.2)
  | _, _, .nil => .nil
  | (_, _) :: _, _, .cons ⟨_, a, e, h⟩ t => by
    simp only at e
    subst e
    exact .cons (dp_t h) (TupsAt.dp t)
end
/-- the menus' own equality, part by part -/
def eqB (b c : Bs) : Bool := decide (b.things = c.things) && (decide (b.names = c.names) && (decide (b.ws.map Ent.wishes = c.ws.map Ent.wishes) && (decide (b.ws.map Ent.back = c.ws.map Ent.back) && decide (b.ws.map Ent.later = c.ws.map Ent.later))))
theorem ents_eq : ∀ {ws vs : List Ent}, ws.map Ent.name = vs.map Ent.name → ws.map Ent.wishes = vs.map Ent.wishes → ws.map Ent.back = vs.map Ent.back → ws.map Ent.later = vs.map Ent.later → ws = vs
  | [], [], _, _, _, _ => rfl
  | [], _ :: _, h, _, _, _ => by simp at h
  | _ :: _, [], h, _, _, _ => by simp at h
  | ⟨n, w, k, l⟩ :: ws, ⟨n2, w2, k2, l2⟩ :: vs, h1, h2, h3, h4 => by
    simp only [List.map_cons, List.cons.injEq] at h1 h2 h3 h4
    rw [ents_eq h1.2 h2.2 h3.2 h4.2, h1.1, h2.1, h3.1, h4.1]
theorem eqB_eq (b c : Bs) : eqB b c = decide (b = c) := by
  rw [Bool.eq_iff_iff]
  unfold eqB Bs.names
  simp only [Bool.and_eq_true, decide_eq_true_eq]
  constructor
  · rintro ⟨h1, h2, h3, h4, h5⟩
    obtain ⟨t, ws⟩ := b
    obtain ⟨t2, ws2⟩ := c
    simp only at h1 h2 h3 h4 h5
    rw [h1, ents_eq h2 h3 h4 h5]
  · rintro rfl
    exact ⟨rfl, rfl, rfl, rfl, rfl⟩
theorem WF.okT {b : Bs} (wf : WF b) : ∀ x ∈ b.things, okS x := fun x h => (wf.tn x h).ok
theorem WF.okN {b : Bs} (wf : WF b) : ∀ x ∈ b.names, okS x := fun x h => (wf.wn x h).ok
theorem WF.okW {b : Bs} (wf : WF b) {e : Ent} (he : e ∈ b.ws) : (∀ x ∈ e.wishes, okS x) ∧ okS e.back ∧ ∀ x ∈ e.later, okS x := by
  have h := wf.we e he
  refine ⟨fun x hx => wf.okT x (h.w x hx), ?_, fun x hx => wf.okN x (h.l x hx)⟩
  rcases h.b with q | q <;> rw [q] <;> (unfold okS; decide +kernel)
/-- == at two menus, or at a menu and something else -/
def spEqM (K : PySem.W.Frag) : Sp := fun vs H Q _ => ∃ m y b, vs = [.ref m, y] ∧ IsM K H m b ∧ ((∃ m2 c, y = .ref m2 ∧ IsM K H m2 c ∧ WF b ∧ WF c ∧ Q (.bl (decide (b = c))) H) ∨ ((∃ T, TyX K H y (.type T) ∧ T ∈ ["NoneType", "bool", "int", "str", "list", "tuple", "dict"]) ∧ Q (.bl false) H))
end Gx

/-! the laws' draws: what they promise -/
namespace Gx
open PySem PySem.Spec PyProof.Rows L2
def SrcO (o : HO) : Prop := ∃ x y : Int, o = .lst [.int x, .int y] ∧ 0 ≤ x ∧ 0 ≤ y ∧ y < 2147483648
def SrcAt (H : Hp) (p : Addr) : Prop := ∃ x y : Int, H p = some (.lst [.int x, .int y]) ∧ 0 ≤ x ∧ 0 ≤ y ∧ y < 2147483648
theorem SrcAt.put {H : Hp} {p : Addr} {o : HO} (h : SrcO o) : SrcAt (upd H p o) p := by
  obtain ⟨x, y, rfl, h⟩ := h
  exact ⟨x, y, upd_same, h⟩
theorem SrcAt.same {H H' : Hp} {p : Addr} (h : SrcAt H p) (k : Same H H') : SrcAt H' p := by
  obtain ⟨x, y, e, h⟩ := h
  exact ⟨x, y, k _ _ e, h⟩
theorem SrcAt.old {H : Hp} {p : Addr} (h : SrcAt H p) {a : Addr} (n : H a = none) : a ≠ p := fun z => by
  obtain ⟨x, y, e, _⟩ := h
  rw [z, e] at n
  cases n
section
variable {K : PySem.W.Frag} {p : Addr} {H H' : Hp}
theorem SqT.src {a : Addr} {xs : List V} (h : SqT K H a xs) (k : Kp p H H') (s : SrcAt H p) : SqT K H' a xs := by
  obtain ⟨x, y, e, _⟩ := s
  rcases h with h | h
  · have ne : a ≠ p := fun z => by
      subst z
      rcases h with h | ⟨o, h⟩ <;> rw [e] at h <;> cases h
    rcases h with h | ⟨o, h⟩
    · exact .inl (.inl (k _ _ ne h))
    · exact .inl (.inr ⟨o, k _ _ ne h⟩)
  · exact .inr h
theorem Kp.none {a : Addr} (k : Kp p H H') (s : SrcAt H p) (h : H' a = Option.none) (hs : SrcAt H' p) : H a = Option.none := by
  rcases q : H a with _ | o
  · rfl
  · have ne : a ≠ p := hs.old h
    rw [k _ _ ne q] at h
    cases h
end
def spDraw : Sp := fun vs H Q _ => ∃ (p : Addr) (k : Int), vs = [.ref p, .int k] ∧ SrcAt H p ∧ 0 < k ∧ k < 1073741824 ∧ ∀ (r : Int) (o : HO), 0 ≤ r → r < k → SrcO o → Q (.int r) (upd H p o)
def spSource (K : PySem.W.Frag) : Sp := fun vs H Q _ => ∃ (a : Addr) (ns : List Int) (st : Int), vs = [.ref a, .int st] ∧ SqL K H a (ns.map V.int) ∧ ns.length ≤ 63 ∧ (∀ z ∈ ns, Builtin.Int.intBits z ≤ 1048576) ∧ 0 ≤ st ∧ st < 1000000 ∧
  ∀ (p : Addr) (o : HO), H p = none → SrcO o → Q (.ref p) (upd H p o)
/-- one of a list, or a sign of a text -/
def spPick (K : PySem.W.Frag) : Sp := fun vs H Q _ => ∃ (p : Addr) (w : V), vs = [.ref p, w] ∧ SrcAt H p ∧
  ((∃ (b : Addr) (xs : List V), w = .ref b ∧ SqL K H b xs ∧ 0 < xs.length ∧ xs.length < 1000000 ∧ b ≠ p ∧ ∀ (v : V) (o : HO), v ∈ xs → SrcO o → Q v (upd H p o)) ∨
   (∃ z : Str, w = .str z ∧ 0 < z.length ∧ z.length < 1000000 ∧ ∀ (c : Nat) (o : HO), c ∈ z.cps.toList → SrcO o → Q (.str ⟨#[c]⟩) (upd H p o)))
/-- the things in a drawn sequence -/
def spMixed (K : PySem.W.Frag) : Sp := fun vs H Q _ => ∃ (p a : Addr) (xs : List Str), vs = [.ref p, .ref a] ∧ SrcAt H p ∧ a ≠ p ∧ (SqL K H a (xs.map V.str) ∨ SqT K H a (xs.map V.str)) ∧ xs.length < 1000 ∧ (∀ x ∈ xs, okS x) ∧
  ∀ (H' : Hp) (q : Addr) (ys : List Str), Kp p H H' → SrcAt H' p → H' q = some (.lst (ys.map V.str)) → ys.Perm xs → H q = none → Q (.ref q) H'
def spWord : Sp := fun vs H Q _ => ∃ p, vs = [.ref p] ∧ SrcAt H p ∧ ∀ H' x, Kp p H H' → SrcAt H' p → NM x → Q (.str x) H'
def spNames (K : PySem.W.Frag) : Sp := fun vs H Q _ => ∃ (p : Addr) (many : Int), vs = [.ref p, .int many] ∧ SrcAt H p ∧ 1 ≤ many ∧ many ≤ 5 ∧
  ∀ (H' : Hp) (q : Addr) (ys : List Str), Kp p H H' → SrcAt H' p → H' q = some (.lst (ys.map V.str)) → (ys.length : Int) = many → ys.Nodup → (∀ y ∈ ys, NM y) → H q = none → Q (.ref q) H'
def spSome (K : PySem.W.Frag) : Sp := fun vs H Q _ => ∃ (p a : Addr) (xs : List Str) (least : Int), vs = [.ref p, .ref a, .int least] ∧ SrcAt H p ∧ a ≠ p ∧ (SqL K H a (xs.map V.str) ∨ SqT K H a (xs.map V.str)) ∧ xs.Nodup ∧ (∀ x ∈ xs, okS x) ∧ 0 ≤ least ∧ least ≤ xs.length ∧ xs.length ≤ 5 ∧
  ∀ (H' : Hp) (t : Addr) (ys : List Str), Kp p H H' → SrcAt H' p → SqT K H' t (ys.map V.str) → ys.Nodup → (∀ y ∈ ys, y ∈ xs) → least ≤ (ys.length : Int) → Q (.ref t) H'
/-- an entry as the laws hold it: (name, wishes, back, later), tuples throughout -/
def EAt (K : PySem.W.Frag) (H : Hp) (v : V) (e : Ent) : Prop := ∃ a w l, v = .ref a ∧ SqT K H a [.str e.name, .ref w, .str e.back, .ref l] ∧ SqT K H w (e.wishes.map V.str) ∧ SqT K H l (e.later.map V.str)
/-- a menu as the laws hold it -/
def BaseAt (K : PySem.W.Frag) (H : Hp) (t : Addr) (b : Bs) : Prop := ∃ th wt es, SqT K H t [.ref th, .ref wt] ∧ SqT K H th (b.things.map V.str) ∧ SqT K H wt es ∧ Paired (EAt K H) es b.ws
section
variable {K : PySem.W.Frag} {p : Addr} {H H' : Hp}
theorem EAt.src {v : V} {e : Ent} (h : EAt K H v e) (k : Kp p H H') (s : SrcAt H p) : EAt K H' v e := by
  obtain ⟨a, w, l, rfl, h1, h2, h3⟩ := h
  exact ⟨a, w, l, rfl, SqT.src h1 k s, SqT.src h2 k s, SqT.src h3 k s⟩
theorem EAt.same {v : V} {e : Ent} (h : EAt K H v e) (k : Same H H') : EAt K H' v e := by
  obtain ⟨a, w, l, rfl, h1, h2, h3⟩ := h
  exact ⟨a, w, l, rfl, SqT.same h1 k, SqT.same h2 k, SqT.same h3 k⟩
theorem BaseAt.src {t : Addr} {b : Bs} (h : BaseAt K H t b) (k : Kp p H H') (s : SrcAt H p) : BaseAt K H' t b := by
  obtain ⟨a, w, es, h1, h2, h3, h4⟩ := h
  exact ⟨a, w, es, SqT.src h1 k s, SqT.src h2 k s, SqT.src h3 k s, Paired.imp2 (fun _ _ q => q.src k s) h4⟩
theorem BaseAt.same {t : Addr} {b : Bs} (h : BaseAt K H t b) (k : Same H H') : BaseAt K H' t b := by
  obtain ⟨a, w, es, h1, h2, h3, h4⟩ := h
  exact ⟨a, w, es, SqT.same h1 k, SqT.same h2 k, SqT.same h3 k, Paired.imp2 (fun _ _ q => q.same k) h4⟩
end
def spBase (K : PySem.W.Frag) : Sp := fun vs H Q _ => ∃ (p : Addr) (most : Int), vs = [.ref p, .int most] ∧ SrcAt H p ∧ 1 ≤ most ∧ most ≤ 5 ∧ ∀ H' t b, Kp p H H' → SrcAt H' p → BaseAt K H' t b → WF b → Q (.ref t) H'
end Gx

/-! a menu whose makings are changed behind -/
namespace Gx
open PySem PySem.Spec PyProof.Rows L2
/-- the menu at m is b, its dicts not there in H0 -/
def IsMF (K : PySem.W.Frag) (H0 H : Hp) (m : Addr) (b : Bs) : Prop := ∃ (dx t1 t2 d1 d2 d3 : Addr) (k1 k3 : List (Key × V)),
  H m = some (.ins (He.ga K "Menu") dx [("_things", .ref t1), ("_weathers", .ref t2), ("_wishes", .ref d1), ("_back", .ref d2), ("_later", .ref d3)]) ∧ H dx = some (.own m) ∧ SqT K H t1 (b.things.map V.str) ∧ SqT K H t2 (b.names.map V.str) ∧
  H d1 = some (.dK k1) ∧ TupsAt K H k1 (b.ws.map fun e => (e.name, e.wishes)) ∧ H d2 = some (.dK (b.ws.map fun e => (.inr e.name, .str e.back))) ∧ H d3 = some (.dK k3) ∧ TupsAt K H k3 (b.ws.map fun e => (e.name, e.later)) ∧ H0 d1 = none ∧ H0 d2 = none ∧ H0 d3 = none
section
variable {K : PySem.W.Frag} {H0 H H' : Hp} {m : Addr} {b : Bs}
theorem IsMF.is (h : IsMF K H0 H m b) : IsM K H m b := by
  obtain ⟨dx, t1, t2, d1, d2, d3, k1, k3, h1, h0, h2, h3, h4, h5, h6, h7, h8, _⟩ := h
  exact ⟨dx, t1, t2, d1, d2, d3, k1, k3, h1, h0, h2, h3, h4, h5, h6, h7, h8⟩
theorem IsMF.same (h : IsMF K H0 H m b) (k : Same H H') : IsMF K H0 H' m b := by
  obtain ⟨dx, t1, t2, d1, d2, d3, k1, k3, h1, h0, h2, h3, h4, h5, h6, h7, h8, h9⟩ := h
  exact ⟨dx, t1, t2, d1, d2, d3, k1, k3, k _ _ h1, k _ _ h0, SqT.same h2 k, SqT.same h3 k, k _ _ h4, h5.same k, k _ _ h6, k _ _ h7, h8.same k, h9⟩
theorem SqT.lstK {w a : Addr} {xs ys : List V} (h : SqT K H a xs) (k : Kp w H H') (e : H w = some (.lst ys)) : SqT K H' a xs := by
  rcases h with h | h
  · have ne : a ≠ w := fun z => by
      subst z
      rcases h with h | ⟨o, h⟩ <;> rw [e] at h <;> cases h
    rcases h with h | ⟨o, h⟩
    · exact .inl (.inl (k _ _ ne h))
    · exact .inl (.inr ⟨o, k _ _ ne h⟩)
  · exact .inr h
/-- a list is written -/
theorem IsMF.lst {w : Addr} {ys : List V} (h : IsMF K H0 H m b) (k : Kp w H H') (e : H w = some (.lst ys)) : IsMF K H0 H' m b := by
  obtain ⟨dx, t1, t2, d1, d2, d3, k1, k3, h1, h0, h2, h3, h4, h5, h6, h7, h8, h9⟩ := h
  have f : ∀ {a o}, H a = some o → (∀ xs, o ≠ .lst xs) → H' a = some o := fun {a o} q n => k _ _ (fun z => by rw [z, e] at q; cases q; exact n _ rfl) q
  exact ⟨dx, t1, t2, d1, d2, d3, k1, k3, f h1 (by intros; simp), f h0 (by intros; simp), SqT.lstK h2 k e, SqT.lstK h3 k e, f h4 (by intros; simp), Paired.imp2 (fun _ _ ⟨q, a, r, z⟩ => ⟨q, a, r, SqT.lstK z k e⟩) h5, f h6 (by intros; simp), f h7 (by intros; simp),
    Paired.imp2 (fun _ _ ⟨q, a, r, z⟩ => ⟨q, a, r, SqT.lstK z k e⟩) h8, h9⟩
/-- a dict that was there is written -/
theorem IsMF.dic {d : Addr} {kvs : List (Key × V)} {u : HO} (h : IsMF K H0 H m b) (k : Kp d H H') (e : H d = some (.dK kvs)) (old : H0 d = some u) : IsMF K H0 H' m b := by
  obtain ⟨dx, t1, t2, d1, d2, d3, k1, k3, h1, h0, h2, h3, h4, h5, h6, h7, h8, n1, n2, n3⟩ := h
  have f : ∀ {a o}, H a = some o → (∀ xs, o ≠ .dK xs) → H' a = some o := fun {a o} q n => k _ _ (fun z => by rw [z, e] at q; cases q; exact n _ rfl) q
  have g : ∀ {a o}, H a = some o → H0 a = none → H' a = some o := fun {a o} q n => k _ _ (fun z => by rw [z, old] at n; cases n) q
  have nd := NoSq.dK e
  exact ⟨dx, t1, t2, d1, d2, d3, k1, k3, f h1 (by intros; simp), f h0 (by intros; simp), SqT.kp h2 k nd, SqT.kp h3 k nd, g h4 n1, h5.kp k nd, g h6 n2, g h7 n3, h8.kp k nd, n1, n2, n3⟩
end
/-- Menu's own __init__ at a new instance, its dicts new -/
def spInitF (K : PySem.W.Frag) : Sp := fun vs H Q _ => ∃ m dx tv d b kvs, vs = [.ref m, tv, .ref d] ∧ H m = some (.ins (He.ga K "Menu") dx []) ∧ H dx = some (.own m) ∧ H d = some (.dK kvs) ∧ EntsAt K H kvs b.ws ∧ Sq K H tv b.things ∧ WF b ∧
  ∀ H', Kp m H H' → IsMF K H H' m b → Q .non H'
/-- the menu made, whatever it was made of -/
def spMade (K : PySem.W.Frag) : Sp := fun vs H Q _ => ∃ t b, vs = [.ref t] ∧ BaseAt K H t b ∧ WF b ∧ ∀ H' m, Same H H' → IsM K H' m b → H m = none → Q (.ref m) H'
/-- an entry whose lists are of Fr, of at most N items -/
def LAt (K : PySem.W.Frag) (Fr : Addr → Prop) (H : Hp) (N : Nat) (p : Key × V) (e : Ent) : Prop := p.1 = .inr e.name ∧ ∃ t w l, p.2 = .ref t ∧ SqT K H t [.ref w, .str e.back, .ref l] ∧ Fr w ∧ Fr l ∧ (∃ ys, H w = some (.lst ys) ∧ ys.length ≤ N) ∧ ∃ ys, H l = some (.lst ys) ∧ ys.length ≤ N
/-- .. just as they were handed in -/
def XAt (K : PySem.W.Frag) (H0 H : Hp) (p : Key × V) (e : Ent) : Prop := p.1 = .inr e.name ∧ ∃ t w l, p.2 = .ref t ∧ SqT K H t [.ref w, .str e.back, .ref l] ∧ H0 w = none ∧ H0 l = none ∧ H w = some (.lst (e.wishes.map V.str)) ∧ H l = some (.lst (e.later.map V.str))
section
variable {K : PySem.W.Frag} {H0 H H' : Hp} {N : Nat} {p : Key × V} {e : Ent}
theorem XAt.same (h : XAt K H0 H p e) (k : Same H H') : XAt K H0 H' p e := by
  obtain ⟨a, t, w, l, b, c, n1, n2, d, f⟩ := h
  exact ⟨a, t, w, l, b, SqT.same c k, n1, n2, k _ _ d, k _ _ f⟩
theorem XAt.dic {d : Addr} {kvs : List (Key × V)} (h : XAt K H0 H p e) (k : Kp d H H') (ed : H d = some (.dK kvs)) : XAt K H0 H' p e := by
  obtain ⟨a, t, w, l, b, c, n1, n2, q, r⟩ := h
  exact ⟨a, t, w, l, b, SqT.kp c k (NoSq.dK ed), n1, n2, k _ _ (fun z => by rw [z, ed] at q; cases q) q, k _ _ (fun z => by rw [z, ed] at r; cases r) r⟩
theorem XAt.l {q : Addr} (h : XAt K H0 H p e) (n : H q = none) (lw : e.wishes.length ≤ N) (ll : e.later.length ≤ N) : LAt K (fun a => H0 a = none ∧ a ≠ q) H N p e := by
  obtain ⟨a, t, w, l, b, c, n1, n2, d, f⟩ := h
  exact ⟨a, t, w, l, b, c, ⟨n1, fun z => by rw [z, n] at d; cases d⟩, ⟨n2, fun z => by rw [z, n] at f; cases f⟩, ⟨_, d, by rw [List.length_map]; exact lw⟩, _, f, by rw [List.length_map]; exact ll⟩
theorem XAt.ent (h : XAt K H0 H p e) : p.1 = .inr e.name ∧ EntAt K H p.2 e := by
  obtain ⟨a, t, w, l, b, c, n1, n2, d, f⟩ := h
  exact ⟨a, t, .ref w, .ref l, b, c, ⟨w, rfl, .inl (SqL.of d)⟩, ⟨l, rfl, .inl (SqL.of f)⟩⟩
variable {Fr : Addr → Prop}
theorem LAt.mono {M : Nat} (h : LAt K Fr H N p e) (le : N ≤ M) : LAt K Fr H M p e := by
  obtain ⟨a, t, w, l, b, c, n1, n2, ⟨y, d, d2⟩, z, f, f2⟩ := h
  exact ⟨a, t, w, l, b, c, n1, n2, ⟨y, d, by omega⟩, z, f, by omega⟩
theorem LAt.same (h : LAt K Fr H N p e) (k : Same H H') : LAt K Fr H' N p e := by
  obtain ⟨a, t, w, l, b, c, n1, n2, ⟨y, d, d2⟩, z, f, f2⟩ := h
  exact ⟨a, t, w, l, b, SqT.same c k, n1, n2, ⟨y, k _ _ d, d2⟩, z, k _ _ f, f2⟩
/-- one list grows by one -/
theorem LAt.app {q : Addr} {xs : List V} {v : V} (h : LAt K Fr H N p e) (eq : H q = some (.lst xs)) (lx : xs.length ≤ N) : LAt K Fr (upd H q (.lst (xs ++ [v]))) (N + 1) p e := by
  obtain ⟨a, t, w, l, b, c, n1, n2, ⟨y, d, d2⟩, z, f, f2⟩ := h
  have one : ∀ {r : Addr} {ys : List V}, H r = some (.lst ys) → ys.length ≤ N → ∃ zs, (upd H q (.lst (xs ++ [v]))) r = some (.lst zs) ∧ zs.length ≤ N + 1 := fun {r ys} hr hy => by
    by_cases c : r = q
    · subst c
      exact ⟨_, upd_same, by rw [List.length_append]; simp; exact lx⟩
    · exact ⟨ys, by rw [upd_ne c]; exact hr, by omega⟩
  exact ⟨a, t, w, l, b, SqT.lstK c Kp.put eq, n1, n2, one d d2, one f f2⟩
end
end Gx

/-! tuples cut, put together and turned round, whatever their length -/
namespace Gx
open PySem PySem.Spec PyProof.Rows L2
open PySem.SeqAt PySem.MeetsSeq PySem.MeetsSeq2 PySem.MeetsSeq3
section
variable {P : Program} {w : World} {A : Around} {E : Value → Shared → Prop} {s : Shared}
/-- t[lo:hi] that is the whole of t is t -/
theorem item_whole {t sl : Addr} {items : Array Value} {vl vu : Value} {lo hi : Option Int} {Q : Value → Shared → Prop} (ht : IsTup s.heap t items) (hs : s.heap.IsSliceOf sl vl vu .none) (pl : IsPart vl lo) (pu : IsPart vu hi)
    (hw : HT.sIx items.size 0 lo = 0 ∧ HT.sIx items.size items.size hi = items.size) (h : Q (.ref t) s) : wpAny (model P w) A (getItem (.ref t) (.ref sl)) Q E s := by
  obtain ⟨os, hos, hcs, hds⟩ := id hs
  have ts : s.TypeIs (.ref sl) "slice" := ⟨os, hos, hcs⟩
  unfold getItem
  try with_reducible refine wpAny_holding ?_
  first | refine wpAny_bind (wpAny_pure ?_) | skip
  refine wpAny_bind (wpAny_sequenceKey ht.typeIs (by decide) ?_)
  refine wpAny_bind (wpAny_callSpecial?_slot (name := Str.ofString "__getitem__") ht.typeIs PyProof.Rows.slot_tuple_getitem (wpAny_call_entry PyProof.Rows.slot_tuple_getitem ht.typeIs PyProof.Rows.entry_tuple_getitem ?_ (PyProof.Rows.args_tuple_getitem _ _)))
  show wpAny _ _ (Builtin.Tuple.tupleItemsOf (.ref t) >>= _) _ _ s
  refine wpAny_bind (tupleItemsOf_ ht ?_)
  refine wpAny_bind (wpAny_typeOf ts ?_)
  rw [if_pos (by decide)]
  refine wpAny_bind (HT.sliceApplied_gen hs pl pu ?_)
  have yes : ((((HT.sIx items.size 0 lo : Nat) : Int) == 0 && (1 : Int) == 1 && (HT.sIx items.size items.size hi - HT.sIx items.size 0 lo) == items.size) = true) := by
    rw [hw.1, hw.2]
    simp
  show wpAny _ _ (if (((HT.sIx items.size 0 lo : Nat) : Int) == 0 && (1 : Int) == 1 && (HT.sIx items.size items.size hi - HT.sIx items.size 0 lo) == items.size) = true then _ else _) _ _ s
  rw [if_pos yes]
  refine wpAny_bind ?_
  unfold Builtin.Tuple.tupleIsExact
  refine wpAny_bind (wpAny_typeOf ht.typeIs (wpAny_pure ?_))
  rw [if_pos (by decide)]
  exact wpAny_bind (wpAny_rule (wpAny_pure ⟨_, rfl, wpAny_pure h⟩))
end
/-- t[lo:hi] of a tuple, whatever its length -/
def rSlA (K : PySem.W.Frag) : V → Option Int → Option Int → Hp → VK → Prop := fun x lo hi H Q => ∃ a xs, x = .ref a ∧ SqT K H a xs ∧ ∀ t H', Same H H' → SqT K H' t (cutV xs lo hi) → Q (.ref t) H'
theorem sl_tupA {X : Cx} : SlR X (rSlA X.K) := by
  intro pins s σ H x v vl vu lo hi sl Q I rx hs pl pu h
  obtain ⟨a, xs, rfl, hx, q⟩ := h
  by_cases hw : HT.sIx xs.length 0 lo = 0 ∧ HT.sIx xs.length xs.length hi = xs.length
  · cases rx
    obtain ⟨its, r, ht, hz⟩ := I.tuple hx
    have hl : its.toArray.size = xs.length := by rw [List.size_toArray]; exact r.length.symm
    refine ⟨"tuple", _, PyProof.Rows.slot_tuple_getitem.lookup, ht.typeIs, item_whole ht hs pl pu (by rw [hl]; exact hw) ?_⟩
    have e : cutV xs lo hi = xs := by
      unfold cutV
      rw [hw.1, hw.2, List.drop_zero, Nat.sub_zero, List.take_length]
    exact ⟨.ref a, H, I, rfl, q a H (Same.refl H) (by rw [e]; exact hx)⟩
  · exact sl_tup pins s σ H (.ref a) v vl vu lo hi sl Q I rx hs pl pu ⟨a, xs, rfl, hx, hw, fun p hp => q p _ (Same.new hp) (.inl (.inl upd_same))⟩
theorem sl_tupAK {X : Cx} {K : PySem.W.Frag} (h : X.K = K) : SlR X (rSlA K) := h ▸ sl_tupA
theorem add_empty (l b : Addr) (items items2 : Array Value) (n n2 : Nat) (dd dd2 : Option Addr) (sl sl2 : Array (Option Value)) (hc0 : items.isEmpty = true) :
    Meets (Builtin.«tuple.__add__» ⟨[.ref l, .ref b], []⟩) (fun _ R s => s.heap.get? l = some { cls := .type "tuple", dict := dd, data := .seq items n, slots := sl } ∧ s.heap.get? b = some { cls := .type "tuple", dict := dd2, data := .seq items2 n2, slots := sl2 } ∧ R (.ok (.ret (Value.ref b))) s) :=
  .of_wp fun prog w A R s h => by
    obtain ⟨hp, g, d, tk, os⟩ := s
    obtain ⟨hl, hb, h⟩ := h
    have f1 := AutoSeq1.idx_int
    have f2 := AutoSeq1.sub_tuple_tuple
    have f3 := AutoSeq1.sub_list_list
    have f4 := AutoSeq1.sub_tuple_list
    have f5 := AutoSeq1.sub_list_tuple
    wp_walk using AutoSeq1.wpAny_loadPart' hl, AutoSeq1.wpAny_loadPart' hb
    exact ⟨_, rfl, h⟩
/-- t + u of tuples, whatever their length -/
def rCatA (K : PySem.W.Frag) : R2 := fun x y H Q => ∃ a b xs ys, x = .ref a ∧ y = .ref b ∧ SqT K H a xs ∧ SqT K H b ys ∧ xs.length + ys.length ≤ sizeLine ∧ ∀ t H', Same H H' → SqT K H' t (xs ++ ys) → Q (.ref t) H'
theorem op_catA {X : Cx} : OpR X (binaryOp .Add) (rCatA X.K) := by
  intro pins s σ H x y v u Q I rx ry h
  obtain ⟨a, b, xs, ys, rfl, rfl, ha, hb, hz, q⟩ := h
  by_cases hx : xs = []
  · subst hx
    cases rx
    cases ry
    obtain ⟨its, r1, p1, _⟩ := I.tuple ha
    obtain ⟨its2, r2, p2, _⟩ := I.tuple hb
    have he : its = [] := r1.nil_iff.mpr rfl
    obtain ⟨⟨c1, dd, dt, sl⟩, ho, hc, n, hd⟩ := id p1
    obtain ⟨⟨c2, dd2, dt2, sl2⟩, ho2, hc2, n2, hd2⟩ := id p2
    simp only at hc hd hc2 hd2
    subst hc hd hc2 hd2
    exact concat_meets ⟨_, ho, rfl⟩ ⟨_, ho2, rfl⟩ noFill_tuple_add seq_tuple_add PySem.F.slot_tuple_add PySem.F.entry_tuple_add (PySem.F.args_tuple_add_2 _ _) (add_empty a b its.toArray its2.toArray n n2 dd dd2 sl sl2 (by simp [he])) ⟨ho, ho2, ⟨.ref b, H, I, rfl, q b H (Same.refl H) hb⟩⟩
  · exact op_catT pins s σ H (.ref a) (.ref b) v u Q I rx ry ⟨a, b, xs, ys, rfl, rfl, ha, hb, hx, hz, fun e => q a H (Same.refl H) (by rw [e, List.append_nil]; exact ha), fun _ p hp => q p _ (Same.new hp) (.inl (.inl upd_same))⟩
theorem op_catAK {X : Cx} {K : PySem.W.Frag} (h : X.K = K) : OpR X (binaryOp .Add) (rCatA K) := h ▸ op_catA
end Gx

/-! tuples turned round -/
namespace Gx
open PySem PySem.Spec PyProof.Rows L2
open PySem.SeqAt PySem.MeetsSeq PySem.MeetsSeq2 PySem.MeetsSeq3
section
variable {P : Program} {w : World} {A : Around} {E : Value → Shared → Prop} {s : Shared}
theorem adjust_rev (n : Nat) : Builtin.Slice.sliceAdjust none none (-1) (n : Int) = ((n : Int) - 1, -1) := by
  unfold Builtin.Slice.sliceAdjust
  simp
theorem places_rev (n : Nat) : Builtin.Slice.slicePlaces ((n : Int) - 1) (-1) (-1) = n := by
  unfold Builtin.Slice.slicePlaces
  simp
  omega
theorem applied_rev {sl : Addr} {vl vu vs : Value} {n : Nat} {Q : Int × Int × Nat → Shared → Prop} (hs : s.heap.IsSliceOf sl vl vu vs) (pl : IsPart vl none) (pu : IsPart vu none) (ps : IsPart vs (some (-1)))
    (h : Q ((n : Int) - 1, -1, n) s) : wpAny (model P w) A (Builtin.Slice.sliceApplied (.ref sl) (pure (n : Int))) Q E s := by
  obtain ⟨os, hos, hcs, hds⟩ := id hs
  unfold Builtin.Slice.sliceApplied Builtin.Slice.sliceFields
  refine wpAny_bind (wpAny_bind (wpAny_field hos hds (x := vl) rfl (wpAny_bind (wpAny_field hos hds (x := vu) rfl (wpAny_bind (wpAny_field hos hds (x := vs) rfl (wpAny_pure ?_)))))))
  refine wpAny_bind (HT.slicePart_ ps ?_)
  show wpAny _ _ (if ((-1 : Int) == 0) = true then _ else _) _ _ s
  rw [if_neg (by decide)]
  refine wpAny_bind (HT.slicePart_ pl (wpAny_bind (HT.slicePart_ pu (wpAny_bind (wpAny_pure ?_)))))
  show wpAny _ _ (match Builtin.Slice.sliceAdjust none none (-1) (n : Int) with | (lo, hi) => pure (lo, (-1 : Int), Builtin.Slice.slicePlaces lo hi (-1))) _ _ s
  rw [adjust_rev n]
  show wpAny _ _ (pure ((n : Int) - 1, (-1 : Int), Builtin.Slice.slicePlaces ((n : Int) - 1) (-1) (-1))) _ _ s
  rw [places_rev]
  exact wpAny_pure h
theorem fm_congr {α β : Type} {f g : α → Option β} : ∀ {l : List α}, (∀ x ∈ l, f x = g x) → l.filterMap f = l.filterMap g
  | [], _ => rfl
  | x :: l, h => by rw [List.filterMap_cons, List.filterMap_cons, h x List.mem_cons_self, fm_congr fun y hy => h y (List.mem_cons_of_mem _ hy)]
theorem pick_rev (xs : List Value) : ((List.range xs.toArray.size).filterMap fun (k : Nat) => xs.toArray[((xs.toArray.size : Int) - 1 + (k : Int) * -1).toNat]?).toArray = xs.reverse.toArray := by
  congr 1
  apply List.ext_getElem?
  intro i
  have e : (List.range xs.toArray.size).filterMap (fun (k : Nat) => xs.toArray[((xs.toArray.size : Int) - 1 + (k : Int) * -1).toNat]?) = (List.range xs.length).map (fun k => xs.getD (xs.length - 1 - k) .none) := by
    rw [← List.filterMap_eq_map]
    simp only [List.size_toArray]
    refine fm_congr fun k hk => ?_
    have hk2 := List.mem_range.mp hk
    have h1 : ((xs.length : Int) - 1 + (k : Int) * -1).toNat = xs.length - 1 - k := by omega
    rw [h1]
    simp only [List.getElem?_toArray, Function.comp]
    rw [List.getElem?_eq_getElem (by omega)]
    simp [List.getD, List.getElem?_eq_getElem (show xs.length - 1 - k < xs.length by omega)]
  rw [e, List.getElem?_map]
  by_cases hi : i < xs.length
  · rw [List.getElem?_range hi, List.getElem?_reverse hi]
    simp [List.getD, List.getElem?_eq_getElem (show xs.length - 1 - i < xs.length by omega)]
  · rw [List.getElem?_eq_none (by simpa using hi), List.getElem?_eq_none (by simpa using hi)]
    rfl
theorem item_rev {t sl : Addr} {items : List Value} {vl vu vs : Value} {Q : Value → Shared → Prop} (ht : IsTup s.heap t items.toArray) (hs : s.heap.IsSliceOf sl vl vu vs) (pl : IsPart vl none) (pu : IsPart vu none) (ps : IsPart vs (some (-1)))
    (h : Q (.ref s.heap.objs.size) { s with heap := s.heap.push { cls := .type "tuple", data := .seq items.reverse.toArray } }) (hz : items.length ≤ sizeLine) : wpAny (model P w) A (getItem (.ref t) (.ref sl)) Q E s := by
  obtain ⟨os, hos, hcs, hds⟩ := id hs
  have ts : s.TypeIs (.ref sl) "slice" := ⟨os, hos, hcs⟩
  unfold getItem
  try with_reducible refine wpAny_holding ?_
  first | refine wpAny_bind (wpAny_pure ?_) | skip
  refine wpAny_bind (wpAny_sequenceKey ht.typeIs (by decide) ?_)
  refine wpAny_bind (wpAny_callSpecial?_slot (name := Str.ofString "__getitem__") ht.typeIs PyProof.Rows.slot_tuple_getitem (wpAny_call_entry PyProof.Rows.slot_tuple_getitem ht.typeIs PyProof.Rows.entry_tuple_getitem ?_ (PyProof.Rows.args_tuple_getitem _ _)))
  show wpAny _ _ (Builtin.Tuple.tupleItemsOf (.ref t) >>= _) _ _ s
  refine wpAny_bind (tupleItemsOf_ ht ?_)
  refine wpAny_bind (wpAny_typeOf ts ?_)
  rw [if_pos (by decide)]
  refine wpAny_bind (applied_rev hs pl pu ps ?_)
  have no : ¬ ((((items.toArray.size : Int) - 1) == 0 && (-1 : Int) == 1 && items.toArray.size == items.toArray.size) = true) := by simp
  show wpAny _ _ (if (((items.toArray.size : Int) - 1) == 0 && (-1 : Int) == 1 && items.toArray.size == items.toArray.size) = true then _ else _) _ _ s
  rw [if_neg no, pick_rev]
  have fits : sizeOk (.seq items.reverse.toArray) := by
    show items.reverse.toArray.size ≤ sizeLine
    simp
    exact hz
  first
    | exact wpAny_bind (m := Builtin.Tuple.tupleExact _) (wpAny_newObj_type (wpAny_pure ⟨_, rfl, wpAny_pure h⟩) fits)
    | exact wpAny_bind (m := Builtin.Tuple.tupleExact _) (wpAny_newObj_type (wpAny_bind (wpAny_pure (wpAny_pure ⟨_, rfl, wpAny_pure h⟩))) fits)
    | exact wpAny_bind (wpAny_bind (m := Builtin.Tuple.tupleExact _) (wpAny_newObj_type (wpAny_pure (wpAny_pure ⟨_, rfl, wpAny_pure h⟩)) fits))
    | exact wpAny_bind (wpAny_bind (m := Builtin.Tuple.tupleExact _) (wpAny_newObj_type (wpAny_pure ⟨_, rfl, wpAny_pure h⟩) fits))
end
/-- t[::-1] of a tuple -/
def tRevT (K : PySem.W.Frag) (te : TE) : TE := fun σ H Q => te σ H fun x H1 => ∃ a xs, x = .ref a ∧ SqT K H1 a xs ∧ ∀ p, H1 p = none → Q (.ref p) (upd H1 p (.tup xs.reverse))
theorem pe_revT {X : Cx} {e : Expr} {te : TE} {k : Nat} {p1 p2 p3 pos : Pos} (he : PE X e te) : PE X (.Subscript e (.Slice none none (some (.UnaryOp .USub (.Constant (.int 1) k p1) p2)) p3) pos) (tRevT X.K te) := by
  refine ⟨fun pins s σ H Q I h => ?_⟩
  refine Subscript_ (thn (he.run pins s σ H _ I h) fun v s1 ⟨x, H1, I1, r1, q1⟩ => ?_)
  obtain ⟨a, xs, rfl, hx, q⟩ := q1
  cases r1
  have st : PO X (some (.UnaryOp .USub (.Constant (.int 1) k p1) p2)) (tPart (tUn (rU fun i => .int (-i)) (tC (.int 1)))) := po_some (pe_un un_neg pe_int)
  refine wpAny_Slice (thn (po_none.run pins s1 σ H1 (fun o H2 => o = none ∧ H2 = H1) I1 ⟨rfl, rfl⟩) fun vl s2 ⟨l, H2, I2, pl, el, e2⟩ => ?_)
  subst el e2
  refine thn (po_none.run pins s2 σ H2 (fun o H3 => o = none ∧ H3 = H2) I2 ⟨rfl, rfl⟩) fun vu s3 ⟨u, H3, I3, pu, eu, e3⟩ => ?_
  subst eu e3
  refine thn (st.run pins s3 σ H3 (fun o H4 => o = some (-1) ∧ H4 = H3) I3 ⟨1, rfl, -1, rfl, rfl, rfl⟩) fun vs s4 ⟨o, H4, I4, ps, eo, e4⟩ => ?_
  subst eo e4
  have I5 : Inv X pins σ H4 { s4 with heap := s4.heap.push { cls := .type "slice", data := .fields #[vl, vu, vs] } } := I4.kept (t' := s4.toks) fun b ob q => Heap.get?_push_of_some _ q
  obtain ⟨its, r, ht, hz⟩ := I5.tuple hx
  have hlen := r.length
  show wpAny (model X.prog X.w) X.A (subscriptTail e (.Slice none none (some (.UnaryOp .USub (.Constant (.int 1) k p1) p2)) p3) (.ref a) (.ref s4.heap.objs.size)) (EP X pins σ Q) X.xe { s4 with heap := s4.heap.push { cls := .type "slice", data := .fields #[vl, vu, vs] } }
  refine tail_any (ops := [.ref a, .ref s4.heap.objs.size]) ht.typeIs PyProof.Rows.slot_tuple_getitem.lookup ?_ (by with_unfolding_all rfl)
  refine item_rev ht (Heap.IsSliceOf.new _ vl vu vs) pl pu ps ?_ (by omega)
  refine ⟨.ref _, _, I5.laid (t' := s4.toks) (o := .tup xs.reverse) (fun b ob q => Heap.get?_push_of_some _ q) (Nat.le_refl _) ?_, rfl, q _ (I5.hok.fresh (Nat.le_refl _))⟩
  exact ⟨by rw [List.length_reverse]; exact hz, _, r.reverse, IsTup.new _ _⟩
theorem pe_revTK {X : Cx} {K : PySem.W.Frag} (h : X.K = K) {e : Expr} {te : TE} {k : Nat} {p1 p2 p3 pos : Pos} (he : PE X e te) : PE X (.Subscript e (.Slice none none (some (.UnaryOp .USub (.Constant (.int 1) k p1) p2)) p3) pos) (tRevT K te) := h ▸ pe_revT he
end Gx

/-! properties that hand a field out, by one Bool -/
namespace Gx
open PySem PySem.Spec PyProof.Rows L2
/-- the function of the property f of C -/
def pgg (K : PySem.W.Frag) (C : Addr) (f : Str) : Addr := match PySem.W.recIn K (He.ma K C f) "property" with
  | some (.ref g :: _) => g
  | _ => 0
def propB (K : PySem.W.Frag) (C : Addr) (f : Str) : Bool :=
  decide (PySem.W.findIn K (.ref C) f = some (some (.ref (He.ma K C f)))) && (decide (PySem.W.specialIn K (.ref (He.ma K C f)) "__get__" = some (some (.builtin "property.__get__"))) && (decide (PySem.W.takesIn K (.ref (He.ma K C f)) = some true) &&
  (match PySem.W.recIn K (He.ma K C f) "property" with | some (.ref _ :: _) => true | _ => false)))
theorem prop_ok {K : PySem.W.Frag} {C : Addr} {f : Str} (h : propB K C f = true) : PropOf K C f (He.ma K C f) (pgg K C f) := by
  unfold propB at h
  simp only [Bool.and_eq_true, decide_eq_true_eq] at h
  obtain ⟨h1, h2, h3, h4⟩ := h
  refine ⟨h1, h2, h3, ?_⟩
  unfold pgg
  split at h4
  · rename_i g rest e
    exact ⟨rest, by rw [e]⟩
  · cases h4
def scopeB (sc : Scope) : Bool := (match sc.kind with | .function => true | _ => false) && (!sc.isCoroutine && (!sc.isGenerator && ((match sc.names.lookup (Str.ofString "self") with | some .local => true | _ => false) && sc.names.all (fun y => match y.2 with | .free => false | _ => true))))
theorem scope_ok {sc : Scope} (h : scopeB sc = true) : FnScope ["self"] ["self"] sc := by
  unfold scopeB at h
  simp only [Bool.and_eq_true, Bool.not_eq_true', List.all_eq_true] at h
  obtain ⟨h1, h2, h3, h4, h5⟩ := h
  refine ⟨?_, h2, h3, by decide, rfl, fun x hx => ?_, fun y hy => ?_⟩
  · split at h1
    · assumption
    · cases h1
  · rw [List.mem_singleton] at hx
    subst hx
    split at h4
    · rename_i e
      exact .inl e
    · cases h4
  · have := h5 y hy
    intro e
    rw [e] at this
    cases this
def getB (K : PySem.W.Frag) (C : Addr) (f u : Str) : Bool := match K.lookup (pgg K C f) with
  | some ⟨_, _, .func ⟨_, q, ⟨[], [⟨s, _, _⟩], none, [], [], none, []⟩, .stmts [.Return (some (.Attribute (.Name s2 _) u' _)) _], sc, gl, [], .none, _, _, _, _, cd, _, bn⟩, _⟩ =>
    decide (s = "self") && (decide (s2 = "self") && (decide (u' = u) && (scopeB sc && (decide (gl = mainGlobals) && (decide (bn = builtinsNs) && (PySem.W.codeIn K cd q && PySem.W.keepIn K (.ref (pgg K C f))))))))
  | _ => false
theorem get_ok {P : Program} {w : World} {K : PySem.W.Frag} {mg : Str → Option Value} {base : Heap} {CX : CXT} {k : Nat} {C : Addr} {f u : Str} (h : getB K C f u = true) (c : Cls K C) (n : NoAttr K C u) :
    ∃ fd, FnOk P w K mg base CX (k + 1) (pgg K C f) fd ["self"] (getSp C u) ∧ Binds K fd ["self"] [] := by
  unfold getB at h
  split at h
  · rename_i o1 o2 nm q s an1 an2 s2 p1 u' p2 p3 sc gl kV doc pm an cd ct bn sl e
    simp only [Bool.and_eq_true, decide_eq_true_eq] at h
    obtain ⟨rfl, rfl, rfl, h4, rfl, rfl, h7, h8⟩ := h
    refine ⟨_, fn_getter (name := nm) (qual := q) (params := ⟨[], [⟨"self", an1, an2⟩], none, [], [], none, []⟩) (dV := .none) (kV := kV) (doc := doc) (pm := pm) (cdv := cd) (ct := ct) (an := an) e h7 (scope_ok h4) rfl rfl c n, ?_⟩
    have D : FunD K nm q ⟨[], [⟨"self", an1, an2⟩], none, [], [], none, []⟩ _ sc [] [] (pgg K C f) (PySem.W.fnOf nm q ⟨[], [⟨"self", an1, an2⟩], none, [], [], none, []⟩ _ sc .none kV doc pm an cd ct) := ⟨⟨_, _, _, _, _, _, _, _, _, _, rfl, e, h7, .inl ⟨rfl, rfl⟩, .inl rfl⟩, h8⟩
    exact D.bindsN fun _ _ _ _ _ _ us hl => match us, hl with | [_], _ => rfl
  · cases h
section
variable {X : Cx} {C : Addr} {f u : Str} {e : Expr} {pos : Pos} {ta : TE}
/-- a property that hands the field u out -/
theorem pe_get (hp : propB X.K C f = true) (hg : getB X.K C f u = true) (c : Cls X.K C) (n : NoAttr X.K C u) (hr : Room 2 X.A) (he : PE X e ta) (hab : attributeBase e f X.env (eval e X.env) = eval e X.env := by rfl) :
    PE X (.Attribute e f pos) (tProp C (getSp C u) [] (fun _ _ _ => False) ta) := by
  obtain ⟨fd, F, B⟩ := get_ok (P := X.prog) (w := X.w) (mg := X.mg) (base := X.base) (CX := CX0) (k := 0) hg c n
  exact pe_prop he c (prop_ok hp) F hr B .nil pass0 hab
end
end Gx

namespace K20
open PySem PySem.Spec PyProof.Rows L2 Gx
def top (i : Nat) : Stmt := PySem.Challenge.pw_dugdays_k20_best_packings_told.main.body.getD i (.Pass ⟨0, 0, 0, 0⟩)
abbrev s_is_name : Stmt := top 24
abbrev s_are_different : Stmt := top 25
abbrev s_are_names : Stmt := top 26
abbrev s_are_things : Stmt := top 27
abbrev s_is_row_of : Stmt := top 28
abbrev s_is_weather_entry : Stmt := top 29
abbrev s_are_weathers : Stmt := top 30
abbrev s_digs_for : Stmt := top 7
abbrev s_put_behind : Stmt := top 8
abbrev s_live_through : Stmt := top 10
abbrev s_ways_from : Stmt := top 11
abbrev s_best_gains : Stmt := top 12
abbrev s_all_packings : Stmt := top 14
abbrev s_most_of_each : Stmt := top 15
abbrev s_least_most : Stmt := top 16
abbrev s_best_packings : Stmt := top 17
abbrev s_law_source : Stmt := top 33
abbrev s_law_draw : Stmt := top 34
abbrev s_law_pick : Stmt := top 35
abbrev s_law_mixed : Stmt := top 36
abbrev s_law_word : Stmt := top 37
abbrev s_law_names : Stmt := top 38
abbrev s_law_some : Stmt := top 39
abbrev s_law_base : Stmt := top 40
abbrev s_law_made : Stmt := top 41
abbrev s_law_entry : Stmt := top 42
abbrev s_law_day : Stmt := top 43
abbrev s_law_packings : Stmt := top 44
abbrev s_law_rows : Stmt := top 45
abbrev s_law : Stmt := top 46
abbrev s_BadWeather_init : Stmt := inClass (top 5) 0
abbrev s_Menu_init : Stmt := inClass (top 31) 0
abbrev s_Menu_wishes : Stmt := inClass (top 31) 3
abbrev s_Menu_back : Stmt := inClass (top 31) 4
abbrev s_Menu_later : Stmt := inClass (top 31) 5
abbrev s_Menu_eq : Stmt := inClass (top 31) 6
abbrev s_Menu_check_weather : Stmt := inClass (top 31) 7
theorem sc_is_name : FnScope ["value", "letter"] ["value"] (defScope s_is_name) := ⟨rfl, rfl, rfl, by decide +kernel, rfl, by decide +kernel, by decide +kernel⟩
theorem sc_are_different : FnScope ["names"] ["names"] (defScope s_are_different) := ⟨rfl, rfl, rfl, by decide +kernel, rfl, by decide +kernel, by decide +kernel⟩
theorem sc_are_names : FnScope ["row", "entry"] ["row"] (defScope s_are_names) := ⟨rfl, rfl, rfl, by decide +kernel, rfl, by decide +kernel, by decide +kernel⟩
theorem sc_are_things : FnScope ["value"] ["value"] (defScope s_are_things) := ⟨rfl, rfl, rfl, by decide +kernel, rfl, by decide +kernel, by decide +kernel⟩
theorem sc_is_row_of : FnScope ["value", "names", "entry"] ["value", "names"] (defScope s_is_row_of) := ⟨rfl, rfl, rfl, by decide +kernel, rfl, by decide +kernel, by decide +kernel⟩
theorem sc_is_weather_entry : FnScope ["value", "things", "weathers", "wishes", "back", "later"] ["value", "things", "weathers"] (defScope s_is_weather_entry) := ⟨rfl, rfl, rfl, by decide +kernel, rfl, by decide +kernel, by decide +kernel⟩
theorem sc_are_weathers : FnScope ["value", "things", "names", "name"] ["value", "things"] (defScope s_are_weathers) := ⟨rfl, rfl, rfl, by decide +kernel, rfl, by decide +kernel, by decide +kernel⟩
theorem sc_digs_for : FnScope ["lying", "wishes", "made", "wish", "above"] ["lying", "wishes"] (defScope s_digs_for) := ⟨rfl, rfl, rfl, by decide +kernel, rfl, by decide +kernel, by decide +kernel⟩
theorem sc_put_behind : FnScope ["lying", "wishes", "back", "thing"] ["lying", "wishes", "back"] (defScope s_put_behind) := ⟨rfl, rfl, rfl, by decide +kernel, rfl, by decide +kernel, by decide +kernel⟩
theorem sc_live_through : FnScope ["packings", "day", "made", "lying", "wishes", "back", "later", "packing"] ["packings", "day"] (defScope s_live_through) := ⟨rfl, rfl, rfl, by decide +kernel, rfl, by decide +kernel, by decide +kernel⟩
theorem sc_ways_from : FnScope ["menu", "starts", "table", "mornings", "numbers", "ways", "on", "weather", "name", "start", "lying", "possible", "number", "morning", "gain", "packing"] ["menu", "starts"] (defScope s_ways_from) := ⟨rfl, rfl, rfl, by decide +kernel, rfl, by decide +kernel, by decide +kernel⟩
theorem sc_best_gains : FnScope ["ways", "days", "sign", "rows", "day", "ahead", "on", "weather", "gain", "number"] ["ways", "days", "sign"] (defScope s_best_gains) := ⟨rfl, rfl, rfl, by decide +kernel, rfl, by decide +kernel, by decide +kernel⟩
theorem sc_all_packings : FnScope ["menu", "things", "row"] ["menu"] (defScope s_all_packings) := ⟨rfl, rfl, rfl, by decide +kernel, rfl, by decide +kernel, by decide +kernel⟩
theorem sc_most_of_each : FnScope ["menu", "packings", "days", "ways", "packing"] ["menu", "packings", "days"] (defScope s_most_of_each) := ⟨rfl, rfl, rfl, by decide +kernel, rfl, by decide +kernel, by decide +kernel⟩
theorem sc_least_most : FnScope ["menu", "days"] ["menu", "days"] (defScope s_least_most) := ⟨rfl, rfl, rfl, by decide +kernel, rfl, by decide +kernel, by decide +kernel⟩
theorem sc_best_packings : FnScope ["menu", "days", "packings", "most", "least", "packing", "digs"] ["menu", "days"] (defScope s_best_packings) := ⟨rfl, rfl, rfl, by decide +kernel, rfl, by decide +kernel, by decide +kernel⟩
theorem sc_law_source : FnScope ["script", "start", "mixed", "cell", "own"] ["script", "start"] (defScope s_law_source) := ⟨rfl, rfl, rfl, by decide +kernel, rfl, by decide +kernel, by decide +kernel⟩
theorem sc_law_draw : FnScope ["source", "span", "found"] ["source", "span"] (defScope s_law_draw) := ⟨rfl, rfl, rfl, by decide +kernel, rfl, by decide +kernel, by decide +kernel⟩
theorem sc_law_pick : FnScope ["source", "some"] ["source", "some"] (defScope s_law_pick) := ⟨rfl, rfl, rfl, by decide +kernel, rfl, by decide +kernel, by decide +kernel⟩
theorem sc_law_mixed : FnScope ["source", "some", "lot", "found"] ["source", "some"] (defScope s_law_mixed) := ⟨rfl, rfl, rfl, by decide +kernel, rfl, by decide +kernel, by decide +kernel⟩
theorem sc_law_word : FnScope ["source", "word", "turn"] ["source"] (defScope s_law_word) := ⟨rfl, rfl, rfl, by decide +kernel, rfl, by decide +kernel, by decide +kernel⟩
theorem sc_law_names : FnScope ["source", "many", "some", "word"] ["source", "many"] (defScope s_law_names) := ⟨rfl, rfl, rfl, by decide +kernel, rfl, by decide +kernel, by decide +kernel⟩
theorem sc_law_some : FnScope ["source", "names", "least"] ["source", "names", "least"] (defScope s_law_some) := ⟨rfl, rfl, rfl, by decide +kernel, rfl, by decide +kernel, by decide +kernel⟩
theorem sc_law_base : FnScope ["source", "most", "things", "name", "names", "weathers", "back"] ["source", "most"] (defScope s_law_base) := ⟨rfl, rfl, rfl, by decide +kernel, rfl, by decide +kernel, by decide +kernel⟩
theorem sc_law_made : FnScope ["base", "menu", "name", "things", "weathers", "wishes", "back", "later"] ["base"] (defScope s_law_made) := ⟨rfl, rfl, rfl, by decide +kernel, rfl, by decide +kernel, by decide +kernel⟩
theorem sc_law_entry : FnScope ["base", "weather", "entry"] ["base", "weather"] (defScope s_law_entry) := ⟨rfl, rfl, rfl, by decide +kernel, rfl, by decide +kernel, by decide +kernel⟩
theorem sc_law_day : FnScope ["base", "packing", "weather", "thing", "name", "wishes", "back", "later", "worn", "found", "above", "one"] ["base", "packing", "weather"] (defScope s_law_day) := ⟨rfl, rfl, rfl, by decide +kernel, rfl, by decide +kernel, by decide +kernel⟩
theorem sc_law_packings : FnScope ["things", "found", "at", "thing", "row"] ["things"] (defScope s_law_packings) := ⟨rfl, rfl, rfl, by decide +kernel, rfl, by decide +kernel, by decide +kernel⟩
theorem sc_law_rows : FnScope ["base", "packing", "days", "side", "now", "turn", "totals", "later", "spot", "weather", "found", "left_here", "total", "key"] ["base", "packing", "days", "side"] (defScope s_law_rows) := ⟨rfl, rfl, rfl, by decide +kernel, rfl, by decide +kernel, by decide +kernel⟩
theorem sc_law : FnScope ["script", "start", "source", "turn", "base", "menu", "days", "rows", "least", "due", "lap", "told", "packing", "number"] ["script"] (defScope s_law) := ⟨rfl, rfl, rfl, by decide +kernel, rfl, by decide +kernel, by decide +kernel⟩
theorem sc_BadWeather_init : FnScope ["self", "value"] ["self", "value"] (defScope s_BadWeather_init) := ⟨rfl, rfl, rfl, by decide +kernel, rfl, by decide +kernel, by decide +kernel⟩
theorem sc_Menu_init : FnScope ["self", "things", "weathers", "name"] ["self", "things", "weathers"] (defScope s_Menu_init) := ⟨rfl, rfl, rfl, by decide +kernel, rfl, by decide +kernel, by decide +kernel⟩
theorem sc_Menu_wishes : FnScope ["self", "weather"] ["self", "weather"] (defScope s_Menu_wishes) := ⟨rfl, rfl, rfl, by decide +kernel, rfl, by decide +kernel, by decide +kernel⟩
theorem sc_Menu_back : FnScope ["self", "weather"] ["self", "weather"] (defScope s_Menu_back) := ⟨rfl, rfl, rfl, by decide +kernel, rfl, by decide +kernel, by decide +kernel⟩
theorem sc_Menu_later : FnScope ["self", "weather"] ["self", "weather"] (defScope s_Menu_later) := ⟨rfl, rfl, rfl, by decide +kernel, rfl, by decide +kernel, by decide +kernel⟩
theorem sc_Menu_eq : FnScope ["self", "other"] ["self", "other"] (defScope s_Menu_eq) := ⟨rfl, rfl, rfl, by decide +kernel, rfl, by decide +kernel, by decide +kernel⟩
theorem sc_Menu_check_weather : FnScope ["self", "value"] ["self", "value"] (defScope s_Menu_check_weather) := ⟨rfl, rfl, rfl, by decide +kernel, rfl, by decide +kernel, by decide +kernel⟩
def fn : List He.DefD := [⟨("is_name", none), "is_name", "is_name", defArgs s_is_name, defBody s_is_name, defScope s_is_name, [], []⟩,
  ⟨("are_different", none), "are_different", "are_different", defArgs s_are_different, defBody s_are_different, defScope s_are_different, [], []⟩,
  ⟨("are_names", none), "are_names", "are_names", defArgs s_are_names, defBody s_are_names, defScope s_are_names, [], []⟩,
  ⟨("are_things", none), "are_things", "are_things", defArgs s_are_things, defBody s_are_things, defScope s_are_things, [], []⟩,
  ⟨("is_row_of", none), "is_row_of", "is_row_of", defArgs s_is_row_of, defBody s_is_row_of, defScope s_is_row_of, [], []⟩,
  ⟨("is_weather_entry", none), "is_weather_entry", "is_weather_entry", defArgs s_is_weather_entry, defBody s_is_weather_entry, defScope s_is_weather_entry, [], []⟩,
  ⟨("are_weathers", none), "are_weathers", "are_weathers", defArgs s_are_weathers, defBody s_are_weathers, defScope s_are_weathers, [], []⟩,
  ⟨("digs_for", none), "digs_for", "digs_for", defArgs s_digs_for, defBody s_digs_for, defScope s_digs_for, [], []⟩,
  ⟨("put_behind", none), "put_behind", "put_behind", defArgs s_put_behind, defBody s_put_behind, defScope s_put_behind, [], []⟩,
  ⟨("live_through", none), "live_through", "live_through", defArgs s_live_through, defBody s_live_through, defScope s_live_through, [], []⟩,
  ⟨("ways_from", none), "ways_from", "ways_from", defArgs s_ways_from, defBody s_ways_from, defScope s_ways_from, [], []⟩,
  ⟨("best_gains", none), "best_gains", "best_gains", defArgs s_best_gains, defBody s_best_gains, defScope s_best_gains, [], []⟩,
  ⟨("all_packings", none), "all_packings", "all_packings", defArgs s_all_packings, defBody s_all_packings, defScope s_all_packings, [], []⟩,
  ⟨("most_of_each", none), "most_of_each", "most_of_each", defArgs s_most_of_each, defBody s_most_of_each, defScope s_most_of_each, [], []⟩,
  ⟨("least_most", none), "least_most", "least_most", defArgs s_least_most, defBody s_least_most, defScope s_least_most, [], []⟩,
  ⟨("best_packings", none), "best_packings", "best_packings", defArgs s_best_packings, defBody s_best_packings, defScope s_best_packings, [], []⟩,
  ⟨("_law_source", none), "_law_source", "_law_source", defArgs s_law_source, defBody s_law_source, defScope s_law_source, [], []⟩,
  ⟨("_law_draw", none), "_law_draw", "_law_draw", defArgs s_law_draw, defBody s_law_draw, defScope s_law_draw, [], []⟩,
  ⟨("_law_pick", none), "_law_pick", "_law_pick", defArgs s_law_pick, defBody s_law_pick, defScope s_law_pick, [], []⟩,
  ⟨("_law_mixed", none), "_law_mixed", "_law_mixed", defArgs s_law_mixed, defBody s_law_mixed, defScope s_law_mixed, [], []⟩,
  ⟨("_law_word", none), "_law_word", "_law_word", defArgs s_law_word, defBody s_law_word, defScope s_law_word, [], []⟩,
  ⟨("_law_names", none), "_law_names", "_law_names", defArgs s_law_names, defBody s_law_names, defScope s_law_names, [], []⟩,
  ⟨("_law_some", none), "_law_some", "_law_some", defArgs s_law_some, defBody s_law_some, defScope s_law_some, [], []⟩,
  ⟨("_law_base", none), "_law_base", "_law_base", defArgs s_law_base, defBody s_law_base, defScope s_law_base, [], []⟩,
  ⟨("_law_made", none), "_law_made", "_law_made", defArgs s_law_made, defBody s_law_made, defScope s_law_made, [], []⟩,
  ⟨("_law_entry", none), "_law_entry", "_law_entry", defArgs s_law_entry, defBody s_law_entry, defScope s_law_entry, [], []⟩,
  ⟨("_law_day", none), "_law_day", "_law_day", defArgs s_law_day, defBody s_law_day, defScope s_law_day, [], []⟩,
  ⟨("_law_packings", none), "_law_packings", "_law_packings", defArgs s_law_packings, defBody s_law_packings, defScope s_law_packings, [], []⟩,
  ⟨("_law_rows", none), "_law_rows", "_law_rows", defArgs s_law_rows, defBody s_law_rows, defScope s_law_rows, [], []⟩,
  ⟨("law", none), "law", "law", defArgs s_law, defBody s_law, defScope s_law, [], []⟩,
  ⟨("BadWeather", some "__init__"), "__init__", "BadWeather.__init__", defArgs s_BadWeather_init, defBody s_BadWeather_init, defScope s_BadWeather_init, [], []⟩,
  ⟨("Menu", some "__init__"), "__init__", "Menu.__init__", defArgs s_Menu_init, defBody s_Menu_init, defScope s_Menu_init, [], []⟩,
  ⟨("Menu", some "wishes"), "wishes", "Menu.wishes", defArgs s_Menu_wishes, defBody s_Menu_wishes, defScope s_Menu_wishes, [], []⟩,
  ⟨("Menu", some "back"), "back", "Menu.back", defArgs s_Menu_back, defBody s_Menu_back, defScope s_Menu_back, [], []⟩,
  ⟨("Menu", some "later"), "later", "Menu.later", defArgs s_Menu_later, defBody s_Menu_later, defScope s_Menu_later, [], []⟩,
  ⟨("Menu", some "__eq__"), "__eq__", "Menu.__eq__", defArgs s_Menu_eq, defBody s_Menu_eq, defScope s_Menu_eq, [], []⟩,
  ⟨("Menu", some "_check_weather"), "_check_weather", "Menu._check_weather", defArgs s_Menu_check_weather, defBody s_Menu_check_weather, defScope s_Menu_check_weather, [], []⟩]
def fa : List He.Fa := [.glo "is_name", .glo "are_different", .glo "are_names", .glo "are_things", .glo "is_row_of", .glo "is_weather_entry", .glo "are_weathers", .glo "digs_for", .glo "put_behind", .glo "live_through", .glo "ways_from", .glo "best_gains", .glo "all_packings", .glo "most_of_each", .glo "least_most", .glo "best_packings", .glo "_law_source", .glo "_law_draw", .glo "_law_pick", .glo "_law_mixed", .glo "_law_word", .glo "_law_names", .glo "_law_some", .glo "_law_base", .glo "_law_made", .glo "_law_entry", .glo "_law_day", .glo "_law_packings", .glo "_law_rows", .glo "law", .glo "BadWeather", .glo "Menu", .glo "WAYS_BACK", .free "len", .free "int", .free "isinstance", .free "range", .free "max", .free "min", .free "repr", .free "list", .free "dict", .free "tuple", .free "set", .free "all", .free "str", .free "enumerate", .free "sum", .free "sorted", .free "zip", .int "MOST_LETTERS" 8, .int "MOST_THINGS" 5, .int "MOST_WEATHERS" 4, .str "LETTERS" "abcdefghijklmnopqrstuvwxyz", .cls "Menu", .noat "Menu" "_things", .noat "Menu" "_weathers", .noat "Menu" "_wishes", .noat "Menu" "_back", .noat "Menu" "_later", .meth "Menu" "wishes", .meth "Menu" "back", .meth "Menu" "later", .meth "Menu" "_check_weather", .meth "Menu" "__eq__", .mkr "Menu"]
def ex : PySem.W.Frag → Bool := fun K => (exB K "BadWeather" "value" && (decide (PySem.W.exmOne K (.ref (He.ga K "BadWeather")) (.ref (He.ga K "BadWeather")) = some true) && (tupB K (He.ga K "WAYS_BACK") ["top", "place"] && ((["NoneType", "bool", "int", "str", "list", "tuple", "dict"]).all (fun T => decide (PySem.W.kitOne K (.type T) (.ref (He.ga K "Menu")) = some false) && PySem.W.notFirst K (He.ga K "Menu") (.type T)) &&
  instB K "Menu")))) && ((propB K (He.ga K "Menu") "things" && (getB K (He.ga K "Menu") "things" "_things" && (propB K (He.ga K "Menu") "weathers" && getB K (He.ga K "Menu") "weathers" "_weathers"))) && He.eqO (PySem.W.nsIn K mainGlobals "permutations") (some (some (.type "itertools.permutations"))))
structure Facts (K : PySem.W.Frag) (mg : Str → Option Value) : Prop where
  c : SaysY fa fn ex K
  h : ∃ h : Heap, K.In h ∧ h.Ns mainGlobals mg
section
variable {K : PySem.W.Frag} {mg : Str → Option Value}
theorem Facts.sys (F : Facts K mg) : SysOk K := F.c.m
theorem g_is_name (F : Facts K mg) : mg "is_name" = some (.ref (He.ga K "is_name")) := F.h.elim fun _ h => He.glo_ok h.1 h.2 (F.c.d.fact 0 rfl)
theorem g_are_different (F : Facts K mg) : mg "are_different" = some (.ref (He.ga K "are_different")) := F.h.elim fun _ h => He.glo_ok h.1 h.2 (F.c.d.fact 1 rfl)
theorem g_are_names (F : Facts K mg) : mg "are_names" = some (.ref (He.ga K "are_names")) := F.h.elim fun _ h => He.glo_ok h.1 h.2 (F.c.d.fact 2 rfl)
theorem g_are_things (F : Facts K mg) : mg "are_things" = some (.ref (He.ga K "are_things")) := F.h.elim fun _ h => He.glo_ok h.1 h.2 (F.c.d.fact 3 rfl)
theorem g_is_row_of (F : Facts K mg) : mg "is_row_of" = some (.ref (He.ga K "is_row_of")) := F.h.elim fun _ h => He.glo_ok h.1 h.2 (F.c.d.fact 4 rfl)
theorem g_is_weather_entry (F : Facts K mg) : mg "is_weather_entry" = some (.ref (He.ga K "is_weather_entry")) := F.h.elim fun _ h => He.glo_ok h.1 h.2 (F.c.d.fact 5 rfl)
theorem g_are_weathers (F : Facts K mg) : mg "are_weathers" = some (.ref (He.ga K "are_weathers")) := F.h.elim fun _ h => He.glo_ok h.1 h.2 (F.c.d.fact 6 rfl)
theorem g_digs_for (F : Facts K mg) : mg "digs_for" = some (.ref (He.ga K "digs_for")) := F.h.elim fun _ h => He.glo_ok h.1 h.2 (F.c.d.fact 7 rfl)
theorem g_put_behind (F : Facts K mg) : mg "put_behind" = some (.ref (He.ga K "put_behind")) := F.h.elim fun _ h => He.glo_ok h.1 h.2 (F.c.d.fact 8 rfl)
theorem g_live_through (F : Facts K mg) : mg "live_through" = some (.ref (He.ga K "live_through")) := F.h.elim fun _ h => He.glo_ok h.1 h.2 (F.c.d.fact 9 rfl)
theorem g_ways_from (F : Facts K mg) : mg "ways_from" = some (.ref (He.ga K "ways_from")) := F.h.elim fun _ h => He.glo_ok h.1 h.2 (F.c.d.fact 10 rfl)
theorem g_best_gains (F : Facts K mg) : mg "best_gains" = some (.ref (He.ga K "best_gains")) := F.h.elim fun _ h => He.glo_ok h.1 h.2 (F.c.d.fact 11 rfl)
theorem g_all_packings (F : Facts K mg) : mg "all_packings" = some (.ref (He.ga K "all_packings")) := F.h.elim fun _ h => He.glo_ok h.1 h.2 (F.c.d.fact 12 rfl)
theorem g_most_of_each (F : Facts K mg) : mg "most_of_each" = some (.ref (He.ga K "most_of_each")) := F.h.elim fun _ h => He.glo_ok h.1 h.2 (F.c.d.fact 13 rfl)
theorem g_least_most (F : Facts K mg) : mg "least_most" = some (.ref (He.ga K "least_most")) := F.h.elim fun _ h => He.glo_ok h.1 h.2 (F.c.d.fact 14 rfl)
theorem g_best_packings (F : Facts K mg) : mg "best_packings" = some (.ref (He.ga K "best_packings")) := F.h.elim fun _ h => He.glo_ok h.1 h.2 (F.c.d.fact 15 rfl)
theorem g__law_source (F : Facts K mg) : mg "_law_source" = some (.ref (He.ga K "_law_source")) := F.h.elim fun _ h => He.glo_ok h.1 h.2 (F.c.d.fact 16 rfl)
theorem g__law_draw (F : Facts K mg) : mg "_law_draw" = some (.ref (He.ga K "_law_draw")) := F.h.elim fun _ h => He.glo_ok h.1 h.2 (F.c.d.fact 17 rfl)
theorem g__law_pick (F : Facts K mg) : mg "_law_pick" = some (.ref (He.ga K "_law_pick")) := F.h.elim fun _ h => He.glo_ok h.1 h.2 (F.c.d.fact 18 rfl)
theorem g__law_mixed (F : Facts K mg) : mg "_law_mixed" = some (.ref (He.ga K "_law_mixed")) := F.h.elim fun _ h => He.glo_ok h.1 h.2 (F.c.d.fact 19 rfl)
theorem g__law_word (F : Facts K mg) : mg "_law_word" = some (.ref (He.ga K "_law_word")) := F.h.elim fun _ h => He.glo_ok h.1 h.2 (F.c.d.fact 20 rfl)
theorem g__law_names (F : Facts K mg) : mg "_law_names" = some (.ref (He.ga K "_law_names")) := F.h.elim fun _ h => He.glo_ok h.1 h.2 (F.c.d.fact 21 rfl)
theorem g__law_some (F : Facts K mg) : mg "_law_some" = some (.ref (He.ga K "_law_some")) := F.h.elim fun _ h => He.glo_ok h.1 h.2 (F.c.d.fact 22 rfl)
theorem g__law_base (F : Facts K mg) : mg "_law_base" = some (.ref (He.ga K "_law_base")) := F.h.elim fun _ h => He.glo_ok h.1 h.2 (F.c.d.fact 23 rfl)
theorem g__law_made (F : Facts K mg) : mg "_law_made" = some (.ref (He.ga K "_law_made")) := F.h.elim fun _ h => He.glo_ok h.1 h.2 (F.c.d.fact 24 rfl)
theorem g__law_entry (F : Facts K mg) : mg "_law_entry" = some (.ref (He.ga K "_law_entry")) := F.h.elim fun _ h => He.glo_ok h.1 h.2 (F.c.d.fact 25 rfl)
theorem g__law_day (F : Facts K mg) : mg "_law_day" = some (.ref (He.ga K "_law_day")) := F.h.elim fun _ h => He.glo_ok h.1 h.2 (F.c.d.fact 26 rfl)
theorem g__law_packings (F : Facts K mg) : mg "_law_packings" = some (.ref (He.ga K "_law_packings")) := F.h.elim fun _ h => He.glo_ok h.1 h.2 (F.c.d.fact 27 rfl)
theorem g__law_rows (F : Facts K mg) : mg "_law_rows" = some (.ref (He.ga K "_law_rows")) := F.h.elim fun _ h => He.glo_ok h.1 h.2 (F.c.d.fact 28 rfl)
theorem g_law (F : Facts K mg) : mg "law" = some (.ref (He.ga K "law")) := F.h.elim fun _ h => He.glo_ok h.1 h.2 (F.c.d.fact 29 rfl)
theorem g_BadWeather (F : Facts K mg) : mg "BadWeather" = some (.ref (He.ga K "BadWeather")) := F.h.elim fun _ h => He.glo_ok h.1 h.2 (F.c.d.fact 30 rfl)
theorem g_Menu (F : Facts K mg) : mg "Menu" = some (.ref (He.ga K "Menu")) := F.h.elim fun _ h => He.glo_ok h.1 h.2 (F.c.d.fact 31 rfl)
theorem g_WAYS_BACK (F : Facts K mg) : mg "WAYS_BACK" = some (.ref (He.ga K "WAYS_BACK")) := F.h.elim fun _ h => He.glo_ok h.1 h.2 (F.c.d.fact 32 rfl)
theorem z_len (F : Facts K mg) : mg "len" = none := F.h.elim fun _ h => He.free_ok h.1 h.2 (F.c.d.fact 33 rfl)
theorem z_int (F : Facts K mg) : mg "int" = none := F.h.elim fun _ h => He.free_ok h.1 h.2 (F.c.d.fact 34 rfl)
theorem z_isinstance (F : Facts K mg) : mg "isinstance" = none := F.h.elim fun _ h => He.free_ok h.1 h.2 (F.c.d.fact 35 rfl)
theorem z_range (F : Facts K mg) : mg "range" = none := F.h.elim fun _ h => He.free_ok h.1 h.2 (F.c.d.fact 36 rfl)
theorem z_max (F : Facts K mg) : mg "max" = none := F.h.elim fun _ h => He.free_ok h.1 h.2 (F.c.d.fact 37 rfl)
theorem z_min (F : Facts K mg) : mg "min" = none := F.h.elim fun _ h => He.free_ok h.1 h.2 (F.c.d.fact 38 rfl)
theorem z_repr (F : Facts K mg) : mg "repr" = none := F.h.elim fun _ h => He.free_ok h.1 h.2 (F.c.d.fact 39 rfl)
theorem z_list (F : Facts K mg) : mg "list" = none := F.h.elim fun _ h => He.free_ok h.1 h.2 (F.c.d.fact 40 rfl)
theorem z_dict (F : Facts K mg) : mg "dict" = none := F.h.elim fun _ h => He.free_ok h.1 h.2 (F.c.d.fact 41 rfl)
theorem z_tuple (F : Facts K mg) : mg "tuple" = none := F.h.elim fun _ h => He.free_ok h.1 h.2 (F.c.d.fact 42 rfl)
theorem z_set (F : Facts K mg) : mg "set" = none := F.h.elim fun _ h => He.free_ok h.1 h.2 (F.c.d.fact 43 rfl)
theorem z_all (F : Facts K mg) : mg "all" = none := F.h.elim fun _ h => He.free_ok h.1 h.2 (F.c.d.fact 44 rfl)
theorem z_str (F : Facts K mg) : mg "str" = none := F.h.elim fun _ h => He.free_ok h.1 h.2 (F.c.d.fact 45 rfl)
theorem z_enumerate (F : Facts K mg) : mg "enumerate" = none := F.h.elim fun _ h => He.free_ok h.1 h.2 (F.c.d.fact 46 rfl)
theorem z_sum (F : Facts K mg) : mg "sum" = none := F.h.elim fun _ h => He.free_ok h.1 h.2 (F.c.d.fact 47 rfl)
theorem z_sorted (F : Facts K mg) : mg "sorted" = none := F.h.elim fun _ h => He.free_ok h.1 h.2 (F.c.d.fact 48 rfl)
theorem z_zip (F : Facts K mg) : mg "zip" = none := F.h.elim fun _ h => He.free_ok h.1 h.2 (F.c.d.fact 49 rfl)
theorem gi_MOST_LETTERS (F : Facts K mg) : ∃ t, mg "MOST_LETTERS" = some (.int 8 t) := F.h.elim fun _ h => He.int_ok h.1 h.2 (F.c.d.fact 50 rfl)
theorem gi_MOST_THINGS (F : Facts K mg) : ∃ t, mg "MOST_THINGS" = some (.int 5 t) := F.h.elim fun _ h => He.int_ok h.1 h.2 (F.c.d.fact 51 rfl)
theorem gi_MOST_WEATHERS (F : Facts K mg) : ∃ t, mg "MOST_WEATHERS" = some (.int 4 t) := F.h.elim fun _ h => He.int_ok h.1 h.2 (F.c.d.fact 52 rfl)
theorem gi_LETTERS (F : Facts K mg) : ∃ t, mg "LETTERS" = some (.str "abcdefghijklmnopqrstuvwxyz" t) := F.h.elim fun _ h => He.str_ok h.1 h.2 (F.c.d.fact 53 rfl)
theorem cls_Menu (F : Facts K mg) : Cls K (He.ga K "Menu") := He.cls_ok (F.c.d.fact 54 rfl)
theorem no_Menu_things (F : Facts K mg) : NoAttr K (He.ga K "Menu") "_things" := He.noat_ok (F.c.d.fact 55 rfl)
theorem no_Menu_weathers (F : Facts K mg) : NoAttr K (He.ga K "Menu") "_weathers" := He.noat_ok (F.c.d.fact 56 rfl)
theorem no_Menu_wishes (F : Facts K mg) : NoAttr K (He.ga K "Menu") "_wishes" := He.noat_ok (F.c.d.fact 57 rfl)
theorem no_Menu_back (F : Facts K mg) : NoAttr K (He.ga K "Menu") "_back" := He.noat_ok (F.c.d.fact 58 rfl)
theorem no_Menu_later (F : Facts K mg) : NoAttr K (He.ga K "Menu") "_later" := He.noat_ok (F.c.d.fact 59 rfl)
theorem me_Menu_wishes (F : Facts K mg) : Meth K (He.ga K "Menu") "wishes" (He.ma K (He.ga K "Menu") "wishes") := He.meth_ok (F.c.d.fact 60 rfl)
theorem me_Menu_back (F : Facts K mg) : Meth K (He.ga K "Menu") "back" (He.ma K (He.ga K "Menu") "back") := He.meth_ok (F.c.d.fact 61 rfl)
theorem me_Menu_later (F : Facts K mg) : Meth K (He.ga K "Menu") "later" (He.ma K (He.ga K "Menu") "later") := He.meth_ok (F.c.d.fact 62 rfl)
theorem me_Menu_check_weather (F : Facts K mg) : Meth K (He.ga K "Menu") "_check_weather" (He.ma K (He.ga K "Menu") "_check_weather") := He.meth_ok (F.c.d.fact 63 rfl)
theorem me_Menu_eq (F : Facts K mg) : Meth K (He.ga K "Menu") "__eq__" (He.ma K (He.ga K "Menu") "__eq__") := He.meth_ok (F.c.d.fact 64 rfl)
theorem mkr_Menu (F : Facts K mg) : Mk K (He.ga K "Menu") (He.ma K (He.ga K "Menu") "__init__") := He.mkr_ok (F.c.d.fact 65 rfl)
theorem Facts.e0 (F : Facts K mg) : (exB K "BadWeather" "value" && (decide (PySem.W.exmOne K (.ref (He.ga K "BadWeather")) (.ref (He.ga K "BadWeather")) = some true) && (tupB K (He.ga K "WAYS_BACK") ["top", "place"] && ((["NoneType", "bool", "int", "str", "list", "tuple", "dict"]).all (fun T => decide (PySem.W.kitOne K (.type T) (.ref (He.ga K "Menu")) = some false) && PySem.W.notFirst K (He.ga K "Menu") (.type T)) &&
  instB K "Menu")))) = true := (He.ba F.c.e).1
theorem Facts.e1 (F : Facts K mg) : (propB K (He.ga K "Menu") "things" && (getB K (He.ga K "Menu") "things" "_things" && (propB K (He.ga K "Menu") "weathers" && getB K (He.ga K "Menu") "weathers" "_weathers"))) = true := (He.ba (He.ba F.c.e).2).1
theorem gm_permutations (F : Facts K mg) : mg "permutations" = some (.type "itertools.permutations") := F.h.elim fun _ h => PySem.W.mg_of h.1 h.2 (He.eqO_ok (He.ba (He.ba F.c.e).2).2)
theorem p_things (F : Facts K mg) : propB K (He.ga K "Menu") "things" = true := (He.ba F.e1).1
theorem q_things (F : Facts K mg) : getB K (He.ga K "Menu") "things" "_things" = true := (He.ba (He.ba F.e1).2).1
theorem p_weathers (F : Facts K mg) : propB K (He.ga K "Menu") "weathers" = true := (He.ba (He.ba (He.ba F.e1).2).2).1
theorem q_weathers (F : Facts K mg) : getB K (He.ga K "Menu") "weathers" "_weathers" = true := (He.ba (He.ba (He.ba F.e1).2).2).2
theorem fun_is_name (F : Facts K mg) : ∃ fd, FunD K "is_name" "is_name" (defArgs s_is_name) (defBody s_is_name) (defScope s_is_name) [] [] (He.ga K "is_name") fd := F.c.d.def_ 0 rfl
theorem fun_are_different (F : Facts K mg) : ∃ fd, FunD K "are_different" "are_different" (defArgs s_are_different) (defBody s_are_different) (defScope s_are_different) [] [] (He.ga K "are_different") fd := F.c.d.def_ 1 rfl
theorem fun_are_names (F : Facts K mg) : ∃ fd, FunD K "are_names" "are_names" (defArgs s_are_names) (defBody s_are_names) (defScope s_are_names) [] [] (He.ga K "are_names") fd := F.c.d.def_ 2 rfl
theorem fun_are_things (F : Facts K mg) : ∃ fd, FunD K "are_things" "are_things" (defArgs s_are_things) (defBody s_are_things) (defScope s_are_things) [] [] (He.ga K "are_things") fd := F.c.d.def_ 3 rfl
theorem fun_is_row_of (F : Facts K mg) : ∃ fd, FunD K "is_row_of" "is_row_of" (defArgs s_is_row_of) (defBody s_is_row_of) (defScope s_is_row_of) [] [] (He.ga K "is_row_of") fd := F.c.d.def_ 4 rfl
theorem fun_is_weather_entry (F : Facts K mg) : ∃ fd, FunD K "is_weather_entry" "is_weather_entry" (defArgs s_is_weather_entry) (defBody s_is_weather_entry) (defScope s_is_weather_entry) [] [] (He.ga K "is_weather_entry") fd := F.c.d.def_ 5 rfl
theorem fun_are_weathers (F : Facts K mg) : ∃ fd, FunD K "are_weathers" "are_weathers" (defArgs s_are_weathers) (defBody s_are_weathers) (defScope s_are_weathers) [] [] (He.ga K "are_weathers") fd := F.c.d.def_ 6 rfl
theorem fun_digs_for (F : Facts K mg) : ∃ fd, FunD K "digs_for" "digs_for" (defArgs s_digs_for) (defBody s_digs_for) (defScope s_digs_for) [] [] (He.ga K "digs_for") fd := F.c.d.def_ 7 rfl
theorem fun_put_behind (F : Facts K mg) : ∃ fd, FunD K "put_behind" "put_behind" (defArgs s_put_behind) (defBody s_put_behind) (defScope s_put_behind) [] [] (He.ga K "put_behind") fd := F.c.d.def_ 8 rfl
theorem fun_live_through (F : Facts K mg) : ∃ fd, FunD K "live_through" "live_through" (defArgs s_live_through) (defBody s_live_through) (defScope s_live_through) [] [] (He.ga K "live_through") fd := F.c.d.def_ 9 rfl
theorem fun_ways_from (F : Facts K mg) : ∃ fd, FunD K "ways_from" "ways_from" (defArgs s_ways_from) (defBody s_ways_from) (defScope s_ways_from) [] [] (He.ga K "ways_from") fd := F.c.d.def_ 10 rfl
theorem fun_best_gains (F : Facts K mg) : ∃ fd, FunD K "best_gains" "best_gains" (defArgs s_best_gains) (defBody s_best_gains) (defScope s_best_gains) [] [] (He.ga K "best_gains") fd := F.c.d.def_ 11 rfl
theorem fun_all_packings (F : Facts K mg) : ∃ fd, FunD K "all_packings" "all_packings" (defArgs s_all_packings) (defBody s_all_packings) (defScope s_all_packings) [] [] (He.ga K "all_packings") fd := F.c.d.def_ 12 rfl
theorem fun_most_of_each (F : Facts K mg) : ∃ fd, FunD K "most_of_each" "most_of_each" (defArgs s_most_of_each) (defBody s_most_of_each) (defScope s_most_of_each) [] [] (He.ga K "most_of_each") fd := F.c.d.def_ 13 rfl
theorem fun_least_most (F : Facts K mg) : ∃ fd, FunD K "least_most" "least_most" (defArgs s_least_most) (defBody s_least_most) (defScope s_least_most) [] [] (He.ga K "least_most") fd := F.c.d.def_ 14 rfl
theorem fun_best_packings (F : Facts K mg) : ∃ fd, FunD K "best_packings" "best_packings" (defArgs s_best_packings) (defBody s_best_packings) (defScope s_best_packings) [] [] (He.ga K "best_packings") fd := F.c.d.def_ 15 rfl
theorem fun_law_source (F : Facts K mg) : ∃ fd, FunD K "_law_source" "_law_source" (defArgs s_law_source) (defBody s_law_source) (defScope s_law_source) [] [] (He.ga K "_law_source") fd := F.c.d.def_ 16 rfl
theorem fun_law_draw (F : Facts K mg) : ∃ fd, FunD K "_law_draw" "_law_draw" (defArgs s_law_draw) (defBody s_law_draw) (defScope s_law_draw) [] [] (He.ga K "_law_draw") fd := F.c.d.def_ 17 rfl
theorem fun_law_pick (F : Facts K mg) : ∃ fd, FunD K "_law_pick" "_law_pick" (defArgs s_law_pick) (defBody s_law_pick) (defScope s_law_pick) [] [] (He.ga K "_law_pick") fd := F.c.d.def_ 18 rfl
theorem fun_law_mixed (F : Facts K mg) : ∃ fd, FunD K "_law_mixed" "_law_mixed" (defArgs s_law_mixed) (defBody s_law_mixed) (defScope s_law_mixed) [] [] (He.ga K "_law_mixed") fd := F.c.d.def_ 19 rfl
theorem fun_law_word (F : Facts K mg) : ∃ fd, FunD K "_law_word" "_law_word" (defArgs s_law_word) (defBody s_law_word) (defScope s_law_word) [] [] (He.ga K "_law_word") fd := F.c.d.def_ 20 rfl
theorem fun_law_names (F : Facts K mg) : ∃ fd, FunD K "_law_names" "_law_names" (defArgs s_law_names) (defBody s_law_names) (defScope s_law_names) [] [] (He.ga K "_law_names") fd := F.c.d.def_ 21 rfl
theorem fun_law_some (F : Facts K mg) : ∃ fd, FunD K "_law_some" "_law_some" (defArgs s_law_some) (defBody s_law_some) (defScope s_law_some) [] [] (He.ga K "_law_some") fd := F.c.d.def_ 22 rfl
theorem fun_law_base (F : Facts K mg) : ∃ fd, FunD K "_law_base" "_law_base" (defArgs s_law_base) (defBody s_law_base) (defScope s_law_base) [] [] (He.ga K "_law_base") fd := F.c.d.def_ 23 rfl
theorem fun_law_made (F : Facts K mg) : ∃ fd, FunD K "_law_made" "_law_made" (defArgs s_law_made) (defBody s_law_made) (defScope s_law_made) [] [] (He.ga K "_law_made") fd := F.c.d.def_ 24 rfl
theorem fun_law_entry (F : Facts K mg) : ∃ fd, FunD K "_law_entry" "_law_entry" (defArgs s_law_entry) (defBody s_law_entry) (defScope s_law_entry) [] [] (He.ga K "_law_entry") fd := F.c.d.def_ 25 rfl
theorem fun_law_day (F : Facts K mg) : ∃ fd, FunD K "_law_day" "_law_day" (defArgs s_law_day) (defBody s_law_day) (defScope s_law_day) [] [] (He.ga K "_law_day") fd := F.c.d.def_ 26 rfl
theorem fun_law_packings (F : Facts K mg) : ∃ fd, FunD K "_law_packings" "_law_packings" (defArgs s_law_packings) (defBody s_law_packings) (defScope s_law_packings) [] [] (He.ga K "_law_packings") fd := F.c.d.def_ 27 rfl
theorem fun_law_rows (F : Facts K mg) : ∃ fd, FunD K "_law_rows" "_law_rows" (defArgs s_law_rows) (defBody s_law_rows) (defScope s_law_rows) [] [] (He.ga K "_law_rows") fd := F.c.d.def_ 28 rfl
theorem fun_law (F : Facts K mg) : ∃ fd, FunD K "law" "law" (defArgs s_law) (defBody s_law) (defScope s_law) [] [] (He.ga K "law") fd := F.c.d.def_ 29 rfl
theorem fun_BadWeather_init (F : Facts K mg) : ∃ fd, FunD K "__init__" "BadWeather.__init__" (defArgs s_BadWeather_init) (defBody s_BadWeather_init) (defScope s_BadWeather_init) [] [] (He.ma K (He.ga K "BadWeather") "__init__") fd := F.c.d.def_ 30 rfl
theorem fun_Menu_init (F : Facts K mg) : ∃ fd, FunD K "__init__" "Menu.__init__" (defArgs s_Menu_init) (defBody s_Menu_init) (defScope s_Menu_init) [] [] (He.ma K (He.ga K "Menu") "__init__") fd := F.c.d.def_ 31 rfl
theorem fun_Menu_wishes (F : Facts K mg) : ∃ fd, FunD K "wishes" "Menu.wishes" (defArgs s_Menu_wishes) (defBody s_Menu_wishes) (defScope s_Menu_wishes) [] [] (He.ma K (He.ga K "Menu") "wishes") fd := F.c.d.def_ 32 rfl
theorem fun_Menu_back (F : Facts K mg) : ∃ fd, FunD K "back" "Menu.back" (defArgs s_Menu_back) (defBody s_Menu_back) (defScope s_Menu_back) [] [] (He.ma K (He.ga K "Menu") "back") fd := F.c.d.def_ 33 rfl
theorem fun_Menu_later (F : Facts K mg) : ∃ fd, FunD K "later" "Menu.later" (defArgs s_Menu_later) (defBody s_Menu_later) (defScope s_Menu_later) [] [] (He.ma K (He.ga K "Menu") "later") fd := F.c.d.def_ 34 rfl
theorem fun_Menu_eq (F : Facts K mg) : ∃ fd, FunD K "__eq__" "Menu.__eq__" (defArgs s_Menu_eq) (defBody s_Menu_eq) (defScope s_Menu_eq) [] [] (He.ma K (He.ga K "Menu") "__eq__") fd := F.c.d.def_ 35 rfl
theorem fun_Menu_check_weather (F : Facts K mg) : ∃ fd, FunD K "_check_weather" "Menu._check_weather" (defArgs s_Menu_check_weather) (defBody s_Menu_check_weather) (defScope s_Menu_check_weather) [] [] (He.ma K (He.ga K "Menu") "_check_weather") fd := F.c.d.def_ 36 rfl
end
end K20

namespace K20
open PySem PySem.Spec PyProof.Rows L2 Gx
section
variable {P : Program} {w : World} {K : PySem.W.Frag} {mg : Str → Option Value} {base : Heap}

theorem ways (F : Facts K mg) (H : Hp) : SqT K H (He.ga K "WAYS_BACK") ((["top", "place"] : List Str).map V.str) := tupB_ok (He.ba (He.ba (He.ba F.e0).2).2).1 H
theorem letters (c : Nat) (h : 97 ≤ c ∧ c ≤ 122) : decide (c ∈ (Str.ofString "abcdefghijklmnopqrstuvwxyz").cps.toList) = true := by
  have all : ∀ k : Fin 26, decide (97 + k.val ∈ (Str.ofString "abcdefghijklmnopqrstuvwxyz").cps.toList) = true := by decide +kernel
  have := all ⟨c - 97, by omega⟩
  rwa [show 97 + (c - 97) = c from by omega] at this
theorem ca_is_name (F : Facts K mg) : Ca P w K mg base CX0 1 "is_name" (spIsName) := by
  obtain ⟨fd, D⟩ := fun_is_name F
  refine ⟨_, fd, ["value"], D.ok sc_is_name (fun vs H Q E h => ?_) (fun cdv A outer s H vs Q E hr h => ?_), D.bindsN fun _ _ _ _ _ _ us hl => match us, hl with | [_], _ => rfl, g_is_name F, D.kp⟩
  · obtain ⟨_, rfl, _⟩ := h
    rfl
  · have hu := hu_of hr
    skip
    refine ⟨_, PSs.nox (pss_cons (ps_if (PW.pt (pw_or (pt_not (pt_val (pe_callB call_isi (by rfl) (z_isinstance F) (by decide +kernel) (pa_cons (pv 0) (pa_cons (pe_bltn (v := .ty "str") (by rfl) (z_str F) (by decide +kernel) rfl) pa_nil))))) (pw_or1 (pt_not (pt_chain op_le op_le pe_int (pe_callB call_len (by rfl) (z_len F) boot_len (pa_cons (pv 0) pa_nil)) (pe_globI rfl (gi_MOST_LETTERS F))))))) (pss_one (ps_ret pe_bl)) pss_nil)
    (pss_one (ps_ret (pe_callB (cr_all rfl) (by rfl) (z_all F) (by decide +kernel) (pa_cons (pe_lc (own := [("letter", 1)]) (g := gName 1) rfl sc_is_name.nd (pi_str (pv 0)) (blkOk_by (own := [("letter", 1)]) (N := ["value", "letter"]) (sc := defScope s_is_name) (by decide +kernel)) (fun _ _ _ _ _ => (pg_name (i := 1) sc_is_name.nd rfl (Or.inl rfl))) (fun _ _ _ _ _ => pts_nil) (fun _ _ _ _ _ => (pe_cmpR op_in_sign (pv 1) (pe_globS rfl (gi_LETTERS F)) (by rfl)))) pa_nil))))), ?_⟩
    obtain ⟨x, rfl, ⟨n1, n8, nc⟩, q⟩ := h
    have hl : (x.length : Nat) ≤ sizeLine := by rw [sizeLine_eq]; omega
    refine ⟨_, rfl, .str x, .ty "str", _, _, _, rfl, .ty _, .base (.str x), kit_ty (r := true) (by decide +kernel), ?_⟩
    refine ⟨_, rfl, ?_⟩
    refine ⟨_, rfl, _, _, rfl, ⟨hl, rfl⟩, 1, _, rfl, rfl, _, rfl, ?_⟩
    have c1 : decide ((1 : Int) ≤ (x.length : Int)) = true := decide_eq_true (by omega)
    rw [c1]
    refine ⟨_, _, rfl, rfl, _, rfl, ?_⟩
    have c2 : decide ((x.length : Int) ≤ 8) = true := decide_eq_true (by omega)
    rw [c2]
    refine ⟨_, rfl, _, rfl, fun D hD => ?_⟩
    refine lc_it walk_str (fun i H' => Same H H' ∧ H' D = some (.lst (List.replicate i (.bl true)))) ⟨Same.new hD, upd_same⟩ (fun _ _ _ _ => trivial) (fun i v H1 H2 hi z y => ?_) (fun H' z => ?_)
    · obtain ⟨rfl, c, hc, rfl⟩ := y
      refine ⟨rfl, ?_⟩
      refine ⟨_, rfl, c, _, rfl, rfl, ?_⟩
      have hm : c ∈ x.cps.toList := by
        rw [← Array.getElem?_toList] at hc
        exact List.mem_of_getElem? hc
      have ha : decide (c ∈ (Str.ofString "abcdefghijklmnopqrstuvwxyz").cps.toList) = true := letters c (nc c hm)
      rw [ha]
      exact ⟨_, z.2, by rw [List.length_replicate]; exact Nat.lt_of_lt_of_le hi hl, ⟨Same.over z.1 hD, by rw [upd_same, List.replicate_succ']⟩⟩
    · refine ⟨D, List.replicate x.length true, rfl, SqL.of (by rw [List.map_replicate]; exact z.2), ?_⟩
      rw [show (List.replicate x.length true).all id = true from by simp]
      exact q _ z.1

theorem ca_are_different (F : Facts K mg) : Ca P w K mg base CX0 1 "are_different" (spDiff K) := by
  obtain ⟨fd, D⟩ := fun_are_different F
  refine ⟨_, fd, ["names"], D.ok sc_are_different (fun vs H Q E h => ?_) (fun cdv A outer s H vs Q E hr h => ?_), D.bindsN fun _ _ _ _ _ _ us hl => match us, hl with | [_], _ => rfl, g_are_different F, D.kp⟩
  · obtain ⟨_, _, rfl, _⟩ := h
    rfl
  · have hu := hu_of hr
    skip
    refine ⟨_, PSs.nox (pss_one (ps_ret (pe_cmpR op_eq (pe_lenSetT rfl rfl (z_len F) rfl (z_set F) (pv 0)) (pe_callB call_len (by rfl) (z_len F) boot_len (pa_cons (pv 0) pa_nil)) (nomark _)))), ?_⟩
    obtain ⟨v, xs, rfl, ⟨a, rfl, hs⟩, l, nd, q⟩ := h
    refine ⟨_, rfl, a, xs, rfl, hs, l, fun n h1 h2 => ?_⟩
    refine ⟨_, rfl, _, xs.length, rfl, ?_, ?_⟩
    · rcases hs with hs | hs
      · exact .inl ⟨_, hs, by simp⟩
      · exact .inr ⟨_, hs, by simp⟩
    refine ⟨rfl, ?_⟩
    rw [h2.mpr nd]
    simpa using q

theorem ca_are_names (F : Facts K mg) : Ca P w K mg base CX0 2 "are_names" (spThings K) := by
  obtain ⟨fd, D⟩ := fun_are_names F
  refine ⟨_, fd, ["row"], D.ok sc_are_names (fun vs H Q E h => ?_) (fun cdv A outer s H vs Q E hr h => ?_), D.bindsN fun _ _ _ _ _ _ us hl => match us, hl with | [_], _ => rfl, g_are_names F, D.kp⟩
  · obtain ⟨_, _, rfl, _⟩ := h
    rfl
  · have hu := hu_of hr
    skip
    refine ⟨_, PSs.nox (pss_one (ps_ret (pe_and (pe_cmpR op_gt (pe_callB call_len (by rfl) (z_len F) boot_len (pa_cons (pv 0) pa_nil)) pe_int (nomark _)) (pe_and (pe_callB (cr_all rfl) (by rfl) (z_all F) (by decide +kernel) (pa_cons (pe_lc (own := [("entry", 1)]) (g := gName 1) rfl sc_are_names.nd (pi_or (pi_list (pv 0)) (pi_tup (pv 0))) (blkOk_by (own := [("entry", 1)]) (N := ["row", "entry"]) (sc := defScope s_are_names) (by decide +kernel)) (fun _ _ _ _ _ => (pg_name (i := 1) sc_are_names.nd rfl (Or.inl rfl))) (fun _ _ _ _ _ => pts_nil) (fun _ _ _ _ _ => (pe_ca (ca_is_name F) (hr.mono (by decide)) rfl pass0 (pa_cons (pv 1) pa_nil)))) pa_nil)) (pe_one (pe_ca (ca_are_different F) (hr.mono (by decide)) rfl pass0 (pa_cons (pv 0) pa_nil))))))), ?_⟩
    obtain ⟨v, xs, rfl, hs, l1, l5, nm, nd, q⟩ := h
    have s1 : Same H H := Same.refl H
    obtain ⟨a, rfl, hs⟩ := hs
    have hln : (∃ ys, SqL K H a ys ∧ xs.length = ys.length) ∨ ∃ ys, SqT K H a ys ∧ xs.length = ys.length := hs.elim (fun h => .inl ⟨_, h, by simp⟩) (fun h => .inr ⟨_, h, by simp⟩)
    refine ⟨_, rfl, _, xs.length, rfl, hln, _, _, rfl, rfl, ?_⟩
    have c1 : decide ((0 : Int) < (xs.length : Int)) = true := decide_eq_true (by omega)
    refine ⟨_, rfl, ?_⟩
    rw [c1]
    have hz : (xs.map V.str).length ≤ sizeLine := by rw [sizeLine_eq, List.length_map]; omega
    rcases hs with hs | hs
    · have SQ : Sq K H (.ref a) xs := ⟨a, rfl, .inl (SqL.same hs s1)⟩
      refine .inl ⟨_, rfl, a, rfl, ⟨_, SqL.same hs s1⟩, fun D hD => lc_yes walk_list hD hz (fun H4 k => SqL.same (SqL.same hs s1) k) (fun x hx H5 R k r => ?_) fun H4 k e => ?_⟩
      rotate_left
      refine ⟨D, List.replicate (xs.map V.str).length true, rfl, SqL.of (by rw [List.map_replicate]; exact e), ?_⟩
      rw [show (List.replicate (xs.map V.str).length true).all id = true from by simp]
      rotate_right
      · obtain ⟨y, hy, rfl⟩ := List.mem_map.mp hx
        exact ⟨rfl, _, rfl, y, rfl, nm y hy, r⟩
      · refine ⟨_, rfl, ?_⟩
        exact ⟨_, rfl, _, xs, rfl, SQ.same k, by omega, nd, q _ (s1.trans k)⟩
    · have SQ : Sq K H (.ref a) xs := ⟨a, rfl, .inr (SqT.same hs s1)⟩
      refine .inr ⟨_, rfl, a, rfl, ⟨_, SqT.same hs s1⟩, fun D hD => lc_yes walk_tup hD hz (fun H4 k => SqT.same (SqT.same hs s1) k) (fun x hx H5 R k r => ?_) fun H4 k e => ?_⟩
      rotate_left
      refine ⟨D, List.replicate (xs.map V.str).length true, rfl, SqL.of (by rw [List.map_replicate]; exact e), ?_⟩
      rw [show (List.replicate (xs.map V.str).length true).all id = true from by simp]
      rotate_right
      · obtain ⟨y, hy, rfl⟩ := List.mem_map.mp hx
        exact ⟨rfl, _, rfl, y, rfl, nm y hy, r⟩
      · refine ⟨_, rfl, ?_⟩
        exact ⟨_, rfl, _, xs, rfl, SQ.same k, by omega, nd, q _ (s1.trans k)⟩

theorem ca_are_things (F : Facts K mg) : Ca P w K mg base CX0 3 "are_things" (spThings K) := by
  obtain ⟨fd, D⟩ := fun_are_things F
  refine ⟨_, fd, ["value"], D.ok sc_are_things (fun vs H Q E h => ?_) (fun cdv A outer s H vs Q E hr h => ?_), D.bindsN fun _ _ _ _ _ _ us hl => match us, hl with | [_], _ => rfl, g_are_things F, D.kp⟩
  · obtain ⟨_, _, rfl, _⟩ := h
    rfl
  · have hu := hu_of hr
    skip
    refine ⟨_, PSs.nox (pss_one (ps_ret (pe_and (pe_callB call_isiT (by rfl) (z_isinstance F) (by decide +kernel) (pa_cons (pv 0) (pa_cons (pe_tup (pa_cons (pe_bltn (v := .ty "list") (by rfl) (z_list F) (by decide +kernel) rfl) (pa_cons (pe_bltn (v := .ty "tuple") (by rfl) (z_tuple F) (by decide +kernel) rfl) pa_nil))) pa_nil))) (pe_and (pe_cmpR op_le (pe_callB call_len (by rfl) (z_len F) boot_len (pa_cons (pv 0) pa_nil)) (pe_globI rfl (gi_MOST_THINGS F)) (nomark _)) (pe_one (pe_ca (ca_are_names F) (hr.mono (by decide)) rfl pass0 (pa_cons (pv 0) pa_nil))))))), ?_⟩
    obtain ⟨v, xs, rfl, hs, l1, l5, nm, nd, q⟩ := h
    refine ⟨_, rfl, (by show 2 ≤ sizeLine; decide), fun t1 h1 => ?_⟩
    generalize g1 : upd _ t1 _ = H1
    obtain ⟨s1, e1, _⟩ := laid g1 h1
    obtain ⟨T, ty, ki⟩ := (hs.same s1).ty
    refine ⟨_, t1, _, T, _, true, rfl, e1, .cons (.ty _) (.cons (.ty _) .nil), ty, ki, ?_⟩
    refine ⟨_, rfl, ?_⟩
    obtain ⟨a, rfl, hs⟩ := hs
    have hln : (∃ ys, SqL K H1 a ys ∧ xs.length = ys.length) ∨ ∃ ys, SqT K H1 a ys ∧ xs.length = ys.length := hs.elim (fun h => .inl ⟨_, SqL.same h s1, by simp⟩) (fun h => .inr ⟨_, SqT.same h s1, by simp⟩)
    refine ⟨_, rfl, _, xs.length, rfl, hln, _, _, rfl, rfl, ?_⟩
    have c2 : decide ((xs.length : Int) ≤ 5) = true := decide_eq_true (by omega)
    refine ⟨_, rfl, ?_⟩
    rw [c2]
    exact ⟨_, rfl, _, xs, rfl, ⟨a, rfl, hs.imp (fun h => SqL.same h s1) (fun h => SqT.same h s1)⟩, l1, l5, nm, nd, fun H7 k7 => q _ (s1.trans k7)⟩

theorem ca_is_row_of (F : Facts K mg) : Ca P w K mg base CX0 2 "is_row_of" (spRow K) := by
  obtain ⟨fd, D⟩ := fun_is_row_of F
  refine ⟨_, fd, ["value", "names"], D.ok sc_is_row_of (fun vs H Q E h => ?_) (fun cdv A outer s H vs Q E hr h => ?_), D.bindsN fun _ _ _ _ _ _ us hl => match us, hl with | [_, _], _ => rfl, g_is_row_of F, D.kp⟩
  · obtain ⟨_, _, _, _, rfl, _⟩ := h
    rfl
  · have hu := hu_of hr
    skip
    refine ⟨_, PSs.nox (pss_cons (ps_if (PW.pt (pw_or (pt_not (pt_val (pe_callB call_isiT (by rfl) (z_isinstance F) (by decide +kernel) (pa_cons (pv 0) (pa_cons (pe_tup (pa_cons (pe_bltn (v := .ty "list") (by rfl) (z_list F) (by decide +kernel) rfl) (pa_cons (pe_bltn (v := .ty "tuple") (by rfl) (z_tuple F) (by decide +kernel) rfl) pa_nil))) pa_nil))))) (pw_or1 (pt_cmpR op_gt (pe_callB call_len (by rfl) (z_len F) boot_len (pa_cons (pv 0) pa_nil)) (pe_callB call_len (by rfl) (z_len F) boot_len (pa_cons (pv 1) pa_nil)) (nomark _))))) (pss_one (ps_ret pe_bl)) pss_nil)
    (pss_one (ps_ret (pe_and (pe_callB (cr_all rfl) (by rfl) (z_all F) (by decide +kernel) (pa_cons (pe_lc (own := [("entry", 2)]) (g := gName 2) rfl sc_is_row_of.nd (pi_or (pi_list (pv 0)) (pi_tup (pv 0))) (blkOk_by (own := [("entry", 2)]) (N := ["value", "names", "entry"]) (sc := defScope s_is_row_of) (by decide +kernel)) (fun _ _ _ _ _ => (pg_name (i := 2) sc_is_row_of.nd rfl (Or.inl rfl))) (fun _ _ _ _ _ => pts_nil) (fun _ _ _ _ _ => (pe_cmpR (op_in_seqK (K := K) rfl) (pv 2) (pv 1) (by rfl)))) pa_nil)) (pe_one (pe_ca (ca_are_different F) (hr.mono (by decide)) rfl pass0 (pa_cons (pv 0) pa_nil))))))), ?_⟩
    obtain ⟨v, ns, xs, ys, rfl, hs, hn, ly, sub, nd, q⟩ := h
    refine ⟨_, rfl, (by show 2 ≤ sizeLine; decide), fun t1 h1 => ?_⟩
    generalize g1 : upd _ t1 _ = H1
    obtain ⟨s1, e1, _⟩ := laid g1 h1
    obtain ⟨T, ty, ki⟩ := (hs.same s1).ty
    refine ⟨_, t1, _, T, _, true, rfl, e1, .cons (.ty _) (.cons (.ty _) .nil), ty, ki, ?_⟩
    refine ⟨_, rfl, ?_⟩
    obtain ⟨a, rfl, hs⟩ := hs
    have hln : (∃ ys, SqL K H1 a ys ∧ xs.length = ys.length) ∨ ∃ ys, SqT K H1 a ys ∧ xs.length = ys.length := hs.elim (fun h => .inl ⟨_, SqL.same h s1, by simp⟩) (fun h => .inr ⟨_, SqT.same h s1, by simp⟩)
    obtain ⟨b, rfl, hn⟩ := hn
    have hln2 : (∃ zs, SqL K H1 b zs ∧ ys.length = zs.length) ∨ ∃ zs, SqT K H1 b zs ∧ ys.length = zs.length := hn.elim (fun h => .inl ⟨_, SqL.same h s1, by simp⟩) (fun h => .inr ⟨_, SqT.same h s1, by simp⟩)
    have le := nodup_len nd sub
    refine ⟨_, rfl, _, xs.length, rfl, hln, _, rfl, _, ys.length, rfl, hln2, ?_⟩
    refine ⟨_, _, rfl, rfl, _, rfl, ?_⟩
    have c2 : decide ((ys.length : Int) < (xs.length : Int)) = false := decide_eq_false (by omega)
    rw [c2]
    have hz : (xs.map V.str).length ≤ sizeLine := by rw [sizeLine_eq, List.length_map]; omega
    rcases hs with hs | hs
    · have SQ : Sq K H1 (.ref a) xs := ⟨a, rfl, .inl (SqL.same hs s1)⟩
      refine .inl ⟨_, rfl, a, rfl, ⟨_, SqL.same hs s1⟩, fun D hD => lc_yes walk_list hD hz (fun H4 k => SqL.same (SqL.same hs s1) k) (fun x hx H5 R k r => ?_) fun H4 k e => ?_⟩
      rotate_left
      refine ⟨D, List.replicate (xs.map V.str).length true, rfl, SqL.of (by rw [List.map_replicate]; exact e), ?_⟩
      rw [show (List.replicate (xs.map V.str).length true).all id = true from by simp]
      rotate_right
      · obtain ⟨y, hy, rfl⟩ := List.mem_map.mp hx
        refine ⟨rfl, _, rfl, _, rfl, b, _, rfl, hn.imp (fun h => SqL.same h (s1.trans k)) (fun h => SqT.same h (s1.trans k)), rfl, flat_texts ys, ?_⟩
        rw [show (if false = true then !inV (.str y) (ys.map V.str) else inV (.str y) (ys.map V.str)) = true from by rw [in_texts]; simp [sub y hy]]
        exact r _ (Same.refl _)
      · refine ⟨_, rfl, ?_⟩
        exact ⟨_, rfl, _, xs, rfl, SQ.same k, by omega, nd, q _ (s1.trans k)⟩
    · have SQ : Sq K H1 (.ref a) xs := ⟨a, rfl, .inr (SqT.same hs s1)⟩
      refine .inr ⟨_, rfl, a, rfl, ⟨_, SqT.same hs s1⟩, fun D hD => lc_yes walk_tup hD hz (fun H4 k => SqT.same (SqT.same hs s1) k) (fun x hx H5 R k r => ?_) fun H4 k e => ?_⟩
      rotate_left
      refine ⟨D, List.replicate (xs.map V.str).length true, rfl, SqL.of (by rw [List.map_replicate]; exact e), ?_⟩
      rw [show (List.replicate (xs.map V.str).length true).all id = true from by simp]
      rotate_right
      · obtain ⟨y, hy, rfl⟩ := List.mem_map.mp hx
        refine ⟨rfl, _, rfl, _, rfl, b, _, rfl, hn.imp (fun h => SqL.same h (s1.trans k)) (fun h => SqT.same h (s1.trans k)), rfl, flat_texts ys, ?_⟩
        rw [show (if false = true then !inV (.str y) (ys.map V.str) else inV (.str y) (ys.map V.str)) = true from by rw [in_texts]; simp [sub y hy]]
        exact r _ (Same.refl _)
      · refine ⟨_, rfl, ?_⟩
        exact ⟨_, rfl, _, xs, rfl, SQ.same k, by omega, nd, q _ (s1.trans k)⟩

theorem ca_is_weather_entry (F : Facts K mg) : Ca P w K mg base CX0 3 "is_weather_entry" (spEntry K) := by
  obtain ⟨fd, D⟩ := fun_is_weather_entry F
  refine ⟨_, fd, ["value", "things", "weathers"], D.ok sc_is_weather_entry (fun vs H Q E h => ?_) (fun cdv A outer s H vs Q E hr h => ?_), D.bindsN fun _ _ _ _ _ _ us hl => match us, hl with | [_, _, _], _ => rfl, g_is_weather_entry F, D.kp⟩
  · obtain ⟨_, _, _, _, _, _, rfl, _⟩ := h
    rfl
  · have hu := hu_of hr
    skip
    refine ⟨_, PSs.nox (pss_cons (ps_if (PW.pt (pw_or (pt_not (pt_val (pe_callB call_isi (by rfl) (z_isinstance F) (by decide +kernel) (pa_cons (pv 0) (pa_cons (pe_bltn (v := .ty "tuple") (by rfl) (z_tuple F) (by decide +kernel) rfl) pa_nil))))) (pw_or1 (pt_cmpR op_ne (pe_callB call_len (by rfl) (z_len F) boot_len (pa_cons (pv 0) pa_nil)) pe_int (nomark _))))) (pss_one (ps_ret pe_bl)) pss_nil)
    (pss_cons (ps_asg (pv 0) (pg_tup rfl (pgs_cons (pg_name (i := 3) sc_is_weather_entry.nd rfl (Or.inl rfl)) (pgs_cons (pg_name (i := 4) sc_is_weather_entry.nd rfl (Or.inl rfl)) (pgs_cons (pg_name (i := 5) sc_is_weather_entry.nd rfl (Or.inl rfl)) pgs_nil)))))
    (pss_cons (ps_if (PW.pt (pw_or (pt_not (pt_val (pe_ca (ca_is_row_of F) (hr.mono (by decide)) rfl pass0 (pa_cons (pv 3) (pa_cons (pv 1) pa_nil))))) (pw_or1 (pt_not (pt_val (pe_ca (ca_is_row_of F) (hr.mono (by decide)) rfl pass0 (pa_cons (pv 5) (pa_cons (pv 2) pa_nil)))))))) (pss_one (ps_ret pe_bl)) pss_nil)
    (pss_one (ps_ret (pe_and (pe_cmpR (op_in_seqK (K := K) rfl) (pv 4) (pe_glob (v := .ref (He.ga K "WAYS_BACK")) rfl (g_WAYS_BACK F) rfl) (by rfl)) (pe_one (pe_cmpR op_gt (pe_callB call_len (by rfl) (z_len F) boot_len (pa_cons (pv 5) pa_nil)) pe_int (nomark _))))))))), ?_⟩
    obtain ⟨v, tv, wv, e, ts, ns, rfl, ⟨t, w2, l2, rfl, ht, hw, hl⟩, hT, hN, lt, ln, we, q⟩ := h
    refine ⟨_, rfl, _, .ty "tuple", _, _, true, rfl, .ty _, tyx_tup ht, kit_ty (by decide +kernel), ?_⟩
    refine ⟨_, rfl, ?_⟩
    refine ⟨_, rfl, _, 3, rfl, .inr ⟨_, ht, rfl⟩, rfl, ?_⟩
    refine ⟨_, rfl, ?_⟩
    refine iteNS (by decide) ?_
    refine ⟨_, rfl, t, _, rfl, ht, rfl, ?_⟩
    refine ⟨_, _, rfl, _, _, rfl, _, _, rfl, rfl, ?_⟩
    have lw : e.wishes.length ≤ ts.length := nodup_len we.wd we.w
    refine ⟨_, rfl, _, rfl, _, _, _, _, rfl, hw, hT, lt, we.w, we.wd, fun H1 k1 => ?_⟩
    refine ⟨_, rfl, ?_⟩
    refine ⟨_, rfl, _, rfl, _, _, _, _, rfl, hl.same k1, hN.same k1, ln, we.l, we.ld, fun H2 k2 => ?_⟩
    refine ⟨_, rfl, ?_⟩
    refine ⟨_, rfl, _, _, rfl, .inr (ways F H2), rfl, flat_texts _, ?_⟩
    have c1 : inV (.str e.back) ((["top", "place"] : List Str).map V.str) = true := by
      rw [in_texts]
      exact decide_eq_true (by rcases we.b with h | h <;> rw [h] <;> simp)
    have c3 : (if false = true then !inV (.str e.back) ((["top", "place"] : List Str).map V.str) else inV (.str e.back) ((["top", "place"] : List Str).map V.str)) = true := c1
    refine ⟨_, rfl, ?_⟩
    rw [c3]
    obtain ⟨b, rfl, hl⟩ := hl
    have hln : (∃ zs, SqL K H2 b zs ∧ e.later.length = zs.length) ∨ ∃ zs, SqT K H2 b zs ∧ e.later.length = zs.length := hl.elim (fun h => .inl ⟨_, SqL.same h (k1.trans k2), by simp⟩) (fun h => .inr ⟨_, SqT.same h (k1.trans k2), by simp⟩)
    refine ⟨_, rfl, _, e.later.length, rfl, hln, _, _, rfl, rfl, ?_⟩
    have c2 : decide ((0 : Int) < (e.later.length : Int)) = true := decide_eq_true (by have := List.length_pos_iff.mpr we.l0; omega)
    show Q (V.bl (decide ((0 : Int) < (e.later.length : Int)))) H2
    rw [c2]
    exact q _ (k1.trans k2)

theorem ca_are_weathers (F : Facts K mg) : Ca P w K mg base CX0 4 "are_weathers" (spWeathers K) := by
  obtain ⟨fd, D⟩ := fun_are_weathers F
  refine ⟨_, fd, ["value", "things"], D.ok sc_are_weathers (fun vs H Q E h => ?_) (fun cdv A outer s H vs Q E hr h => ?_), D.bindsN fun _ _ _ _ _ _ us hl => match us, hl with | [_, _], _ => rfl, g_are_weathers F, D.kp⟩
  · obtain ⟨_, _, _, _, rfl, _⟩ := h
    rfl
  · have hu := hu_of hr
    skip
    refine ⟨_, PSs.nox (pss_cons (ps_if (PW.pt (pw_or (pt_not (pt_val (pe_callB call_isi (by rfl) (z_isinstance F) (by decide +kernel) (pa_cons (pv 0) (pa_cons (pe_bltn (v := .ty "dict") (by rfl) (z_dict F) (by decide +kernel) rfl) pa_nil))))) (pw_or1 (pt_not (pt_chain op_le op_le pe_int (pe_callB call_lenD (by rfl) (z_len F) boot_len (pa_cons (pv 0) pa_nil)) (pe_globI rfl (gi_MOST_WEATHERS F))))))) (pss_one (ps_ret pe_bl)) pss_nil)
    (pss_cons (ps_set (i := 2) sc_are_weathers.nd rfl (Or.inr rfl) (pe_callTy (call_list_dK rfl) (by rfl) (z_list F) (by decide +kernel) (pa_cons (pv 0) pa_nil)))
    (pss_one (ps_ret (pe_callB (cr_all rfl) (by rfl) (z_all F) (by decide +kernel) (pa_cons (pe_lc (own := [("name", 3)]) (g := gName 3) rfl sc_are_weathers.nd (pi_list (pv 2)) (blkOk_by (own := [("name", 3)]) (N := ["value", "things", "names", "name"]) (sc := defScope s_are_weathers) (by decide +kernel)) (fun _ _ _ _ _ => (pg_name (i := 3) sc_are_weathers.nd rfl (Or.inl rfl))) (fun _ _ _ _ _ => pts_nil) (fun _ _ _ _ _ => (pe_and (pe_ca (ca_is_name F) (hr.mono (by decide)) rfl pass0 (pa_cons (pv 3) pa_nil)) (pe_one (pe_ca (ca_is_weather_entry F) (hr.mono (by decide)) rfl pass0 (pa_cons (pe_dget hu (pv 0) (pv 3) (fun _ _ => rfl)) (pa_cons (pv 1) (pa_cons (pv 2) pa_nil)))))))) pa_nil)))))), ?_⟩
    obtain ⟨d, tv, b, kvs, rfl, hd, he, ht, wf, q⟩ := h
    have hk := he.keys
    have hlen : kvs.length = b.ws.length := by simpa using congrArg List.length hk
    have a1 := wf.w1
    have a4 := wf.w4
    refine ⟨_, rfl, _, .ty "dict", _, _, true, rfl, .ty _, .base (.dK hd), kit_ty (by decide +kernel), ?_⟩
    refine ⟨_, rfl, ?_⟩
    refine ⟨_, rfl, d, kvs, rfl, hd, 1, _, rfl, rfl, _, rfl, ?_⟩
    have c1 : decide ((1 : Int) ≤ (kvs.length : Int)) = true := decide_eq_true (by omega)
    rw [c1]
    refine ⟨_, _, rfl, rfl, _, rfl, ?_⟩
    have c2 : decide ((kvs.length : Int) ≤ 4) = true := decide_eq_true (by omega)
    rw [c2]
    refine ⟨_, rfl, d, kvs, rfl, hd, fun p h1 => ?_⟩
    have ek : (kvs.map fun kv => kV kv.1) = b.names.map V.str := by
      have e := congrArg (List.map kV) hk
      rw [List.map_map, List.map_map] at e
      unfold Bs.names
      rw [List.map_map]
      exact e
    rw [ek]
    generalize g1 : upd _ p _ = H1
    obtain ⟨s1, e1, _⟩ := laid g1 h1
    have hz : (b.names.map V.str).length ≤ sizeLine := by rw [sizeLine_eq]; unfold Bs.names; simp; omega
    have ln : b.names.length < 1000 := by unfold Bs.names; simp; omega
    refine ⟨_, rfl, p, rfl, ⟨_, SqL.of e1⟩, fun D hD => lc_yes walk_list hD hz (fun H4 k => SqL.same (SqL.of e1) k) (fun x hx H5 R k r => ?_) fun H4 k e => ?_⟩
    · obtain ⟨y, hy, rfl⟩ := List.mem_map.mp hx
      refine ⟨rfl, _, rfl, y, rfl, wf.wn y hy, fun H6 k6 => ?_⟩
      refine ⟨_, rfl, ?_⟩
      obtain ⟨en, hen, rfl⟩ := List.mem_map.mp hy
      obtain ⟨i, hi, ei⟩ := List.mem_iff_getElem.mp hen
      have nd : (kvs.map (·.1)).Nodup := by
        rw [hk]
        have := wf.wd
        unfold Bs.names at this
        rw [show (b.ws.map fun e => (Sum.inr e.name : Key)) = (b.ws.map Ent.name).map Sum.inr from by rw [List.map_map]; rfl]
        exact List.Pairwise.map _ (fun a b h e => h (Sum.inr.inj e)) this
      have hi2 : i < kvs.length := by omega
      have eki : kvs[i]? = some kvs[i] := List.getElem?_eq_getElem hi2
      obtain ⟨en2, f1, f2, f3⟩ := Paired.at2 he eki
      have f4 : en2 = en := by
        rw [List.getElem?_eq_getElem hi, ei] at f1
        exact (Option.some.inj f1).symm
      subst f4
      have gv : valV kvs (.inr en2.name) = some kvs[i].2 := valV_at (i := i) nd (by rw [eki, ← f2])
      have S6 : Same H H6 := s1.trans (k.trans k6)
      refine ⟨_, rfl, _, rfl, d, kvs[i].2, rfl, by rw [← gv]; exact DGet.k (k := .inr en2.name) (S6 _ _ hd), _, rfl, _, rfl, ?_⟩
      exact ⟨_, _, _, en2, _, _, rfl, f3.same S6, ht.same S6, ⟨p, rfl, .inl (SqL.of ((k.trans k6) _ _ e1))⟩, by have := wf.t5; omega, ln, wf.we en2 hen, fun H7 k7 => r _ (k6.trans k7)⟩
    · refine ⟨D, List.replicate (b.names.map V.str).length true, rfl, SqL.of (by rw [List.map_replicate]; exact e), ?_⟩
      rw [show (List.replicate (b.names.map V.str).length true).all id = true from by simp]
      exact q _ (s1.trans k)

end
end K20

namespace K20
open PySem PySem.Spec PyProof.Rows L2 Gx
section
variable {P : Program} {w : World} {K : PySem.W.Frag} {mg : Str → Option Value} {base : Heap}

theorem exb (F : Facts K mg) : ExB K "BadWeather" "value" := exB_ok (He.ba F.e0).1
theorem exm (F : Facts K mg) : PySem.W.exmOne K (.ref (He.ga K "BadWeather")) (.ref (He.ga K "BadWeather")) = some true := of_decide_eq_true (He.ba (He.ba F.e0).2).1
theorem menuTy (F : Facts K mg) {T : String} (h : T ∈ ["NoneType", "bool", "int", "str", "list", "tuple", "dict"]) : PySem.W.kitOne K (.type T) (.ref (He.ga K "Menu")) = some false ∧ PySem.W.notFirst K (He.ga K "Menu") (.type T) = true := by
  have e := List.all_eq_true.mp (He.ba (He.ba (He.ba (He.ba F.e0).2).2).2).1 T h
  exact ⟨of_decide_eq_true (He.ba e).1, (He.ba e).2⟩
theorem menuI (F : Facts K mg) : InstB K "Menu" := instB_ok (He.ba (He.ba (He.ba (He.ba F.e0).2).2).2).2
theorem ex_BadWeather (F : Facts K mg) : ∃ fI fd, ExK P w K mg base "BadWeather" (He.ga K "BadWeather") "value" fI fd := by
  obtain ⟨fd, D⟩ := fun_BadWeather_init F
  have B := exb F
  refine ⟨_, fd, B.T, B.i, B.t, D.ok sc_BadWeather_init (fun vs H Q E h => ?_) (fun cdv A outer s H vs Q E hr h => ?_), D.bindsN fun _ _ _ _ _ _ us hl => match us, hl with | [_, _], _ => rfl, kb_one D (fun _ _ _ _ _ _ _ _ => rfl), g_BadWeather F⟩
  · obtain ⟨_, _, rfl, _⟩ := h
    rfl
  · obtain ⟨a, v, rfl, ha, q⟩ := h
    exact ⟨_, PSs.nox (pss_one (ps_ost (pv 0) (pv 1))), _, rfl, _, rfl, a, _, rfl, B.T, B.no, .inl ⟨ha, q⟩⟩
theorem paired_eq {f : Ent → V} : ∀ {kvs : List (Key × V)} {ws : List Ent}, Paired (fun (p : Key × V) (e : Ent) => p.1 = .inr e.name ∧ p.2 = f e) kvs ws → kvs = ws.map fun e => (Sum.inr e.name, f e)
  | _, _, .nil => rfl
  | (a, b) :: _, _, .cons ⟨h1, h2⟩ t => by
    simp only at h1 h2
    rw [List.map_cons, ← paired_eq t, h1, h2]
theorem tups_of {K : PySem.W.Frag} {H : Hp} {f : Ent → List Str} : ∀ {kvs : List (Key × V)} {ws : List Ent}, Paired (fun (p : Key × V) (e : Ent) => p.1 = .inr e.name ∧ ∃ a, p.2 = V.ref a ∧ SqT K H a ((f e).map V.str)) kvs ws → TupsAt K H kvs (ws.map fun e => (e.name, f e))
  | _, _, .nil => .nil
  | _, _, .cons h t => .cons h (tups_of t)
theorem mk_Menu (F : Facts K mg) : CaI P w K mg base CX0 5 "Menu" (He.ga K "Menu") (spInitF K) := by
  obtain ⟨fd, D⟩ := fun_Menu_init F
  refine ⟨_, fd, ["self", "things", "weathers"], D.ok sc_Menu_init (fun vs H Q E h => ?_) (fun cdv A outer s H vs Q E hr h => ?_), D.bindsN fun _ _ _ _ _ _ us hl => match us, hl with | [_, _, _], _ => rfl, mkr_Menu F, g_Menu F⟩
  · obtain ⟨_, _, _, _, _, _, rfl, _⟩ := h
    rfl
  · have hu := hu_of hr
    skip
    refine ⟨_, PSs.nox (pss_cons (ps_if (pt_not (pt_val (pe_ca (ca_are_things F) (hr.mono (by decide)) rfl pass0 (pa_cons (pv 1) pa_nil)))) (pss_one ps_never) pss_nil)
    (pss_cons (ps_if (pt_not (pt_val (pe_ca (ca_are_weathers F) (hr.mono (by decide)) rfl pass0 (pa_cons (pv 2) (pa_cons (pv 1) pa_nil))))) (pss_one ps_never) pss_nil)
    (pss_cons (ps_fld (pv 0) (pe_callTy (call_tuple_ofK (K := K) rfl) (by rfl) (z_tuple F) (by decide +kernel) (pa_cons (pv 1) pa_nil)) rfl)
    (pss_cons (ps_fld (pv 0) (pe_callTy (call_tupleD rfl) (by rfl) (z_tuple F) (by decide +kernel) (pa_cons (pv 2) pa_nil)) rfl)
    (pss_cons (ps_fld (pv 0) (pe_lock (pe_dc (own := [("name", 3)]) (tt := tYes) (g := gName 3) rfl sc_Menu_init.nd (pi_keys (pv 2)) (blkOk_by (own := [("name", 3)]) (N := ["self", "things", "weathers", "name"]) (sc := defScope s_Menu_init) (by decide +kernel)) (fun _ _ _ _ _ => (pg_name (i := 3) sc_Menu_init.nd rfl (Or.inl rfl))) (fun _ _ _ _ _ => pts_nil) (fun _ _ _ _ _ => (pv 3)) (fun _ _ _ _ _ => (pe_callTy (call_tuple_ofK (K := K) rfl) (by rfl) (z_tuple F) (by decide +kernel) (pa_cons (pe_ix (ix_tupK (K := K) rfl) (pe_dget hu (pv 2) (pv 3) (fun _ _ => rfl)) pe_int (fun _ _ => rfl)) pa_nil))))) rfl)
    (pss_cons (ps_fld (pv 0) (pe_lock (pe_dc (own := [("name", 3)]) (tt := tYes) (g := gName 3) rfl sc_Menu_init.nd (pi_keys (pv 2)) (blkOk_by (own := [("name", 3)]) (N := ["self", "things", "weathers", "name"]) (sc := defScope s_Menu_init) (by decide +kernel)) (fun _ _ _ _ _ => (pg_name (i := 3) sc_Menu_init.nd rfl (Or.inl rfl))) (fun _ _ _ _ _ => pts_nil) (fun _ _ _ _ _ => (pv 3)) (fun _ _ _ _ _ => (pe_ix (ix_tupK (K := K) rfl) (pe_dget hu (pv 2) (pv 3) (fun _ _ => rfl)) pe_int (fun _ _ => rfl))))) rfl)
    (pss_one (ps_fld (pv 0) (pe_lock (pe_dc (own := [("name", 3)]) (tt := tYes) (g := gName 3) rfl sc_Menu_init.nd (pi_keys (pv 2)) (blkOk_by (own := [("name", 3)]) (N := ["self", "things", "weathers", "name"]) (sc := defScope s_Menu_init) (by decide +kernel)) (fun _ _ _ _ _ => (pg_name (i := 3) sc_Menu_init.nd rfl (Or.inl rfl))) (fun _ _ _ _ _ => pts_nil) (fun _ _ _ _ _ => (pv 3)) (fun _ _ _ _ _ => (pe_callTy (call_tuple_ofK (K := K) rfl) (by rfl) (z_tuple F) (by decide +kernel) (pa_cons (pe_ix (ix_tupK (K := K) rfl) (pe_dget hu (pv 2) (pv 3) (fun _ _ => rfl)) pe_int (fun _ _ => rfl)) pa_nil))))) rfl)))))))), ?_⟩
    obtain ⟨m, dx, tv, d, b, kvs, rfl, hm, hdx, hd, he, ht, wf, q⟩ := h
    refine ⟨_, rfl, tv, b.things, rfl, ht, wf.t1, wf.t5, wf.tn, wf.td, fun H1 k1 => ?_⟩
    refine ⟨_, rfl, ?_⟩
    refine ⟨_, rfl, _, rfl, d, tv, b, kvs, rfl, k1 _ _ hd, he.same k1, ht.same k1, wf, fun H2 k2 => ?_⟩
    refine ⟨_, rfl, ?_⟩
    refine ⟨_, rfl, ?_⟩
    dsimp only [tNil]
    refine tupOf (ht.same (k1.trans k2)) fun t1 H3 k3 e3 => ?_
    have S3 : Same H H3 := k1.trans (k2.trans k3)
    refine ⟨_, rfl, m, _, dx, _, rfl, S3 _ _ hm, cls_Menu F, no_Menu_things F, (by decide), ?_⟩
    have kp4 : Kp m H (upd H3 m (.ins (He.ga K "Menu") dx (putF "_things" (.ref t1) []))) := (Same.kp S3).trans Kp.put
    have E3 : SqT K (upd H3 m (.ins (He.ga K "Menu") dx (putF "_things" (.ref t1) []))) t1 (b.things.map V.str) := SqT.kp e3 Kp.put (NoSq.ins (S3 _ _ hm))
    generalize g4 : upd H3 m _ = H4 at kp4 E3 ⊢
    have m4 : H4 m = some (.ins (He.ga K "Menu") dx [("_things", .ref t1)]) := by rw [← g4]; exact upd_same
    have nm : ∀ {a o}, H a = some o → (∀ C dx fs, o ≠ .ins C dx fs) → a ≠ m := fun {a o} e n z => by rw [z, hm] at e; cases e; exact n _ _ _ rfl
    have hd4 : H4 d = some (.dK kvs) := kp4 _ _ (nm hd (by intros; simp)) hd
    have he4 : EntsAt K H4 kvs b.ws := he.kp kp4 (NoSq.ins hm)
    refine ⟨_, rfl, d, kvs, rfl, hd4, fun t2 n5 => ?_⟩
    have hk := he.keys
    have ek : (kvs.map fun kv => kV kv.1) = b.names.map V.str := by
      have e := congrArg (List.map kV) hk
      rw [List.map_map, List.map_map] at e
      unfold Bs.names
      rw [List.map_map]
      exact e
    rw [ek]
    generalize g5 : upd H4 t2 _ = H5
    obtain ⟨k5, e5, _⟩ := laid g5 n5
    have E1_5 := SqT.same E3 k5
    have E2_5 : SqT K H5 t2 (b.names.map V.str) := .inl (.inl e5)
    have kp5 := kp4.trans (Same.kp k5)
    refine ⟨_, rfl, m, _, dx, _, rfl, k5 _ _ m4, cls_Menu F, no_Menu_weathers F, (by simp), ?_⟩
    have mm5 : H5 m = some (.ins (He.ga K "Menu") dx [("_things", .ref t1)]) := k5 _ _ m4
    have kp6 : Kp m H (upd H5 m (.ins (He.ga K "Menu") dx (putF "_weathers" (.ref t2) [("_things", .ref t1)]))) := kp5.trans Kp.put
    have E1_6 : SqT K (upd H5 m (.ins (He.ga K "Menu") dx (putF "_weathers" (.ref t2) [("_things", .ref t1)]))) t1 (b.things.map V.str) := SqT.kp E1_5 Kp.put (NoSq.ins mm5)
    have E2_6 : SqT K (upd H5 m (.ins (He.ga K "Menu") dx (putF "_weathers" (.ref t2) [("_things", .ref t1)]))) t2 (b.names.map V.str) := SqT.kp E2_5 Kp.put (NoSq.ins mm5)
    have m6 : (upd H5 m (.ins (He.ga K "Menu") dx (putF "_weathers" (.ref t2) [("_things", .ref t1)]))) m = some (.ins (He.ga K "Menu") dx [("_things", .ref t1), ("_weathers", .ref t2)]) := upd_same
    generalize upd H5 m (.ins (He.ga K "Menu") dx (putF "_weathers" (.ref t2) [("_things", .ref t1)])) = H6 at kp6 E1_6 E2_6 m6 ⊢
    have few : b.ws.length < 1000 := by have := wf.w4; omega
    have hlen : kvs.length = b.ws.length := by simpa using congrArg List.length hk
    have ndk : (kvs.map (·.1)).Nodup := by
      rw [hk]
      have h1 := wf.wd
      unfold Bs.names at h1
      rw [show (b.ws.map fun e => (Sum.inr e.name : Key)) = (b.ws.map Ent.name).map Sum.inr from by rw [List.map_map]; rfl]
      exact List.Pairwise.map _ (fun a b h e => h (Sum.inr.inj e)) h1
    have d_6 : H6 d = some (.dK kvs) := kp6 _ _ (nm hd (by intros; simp)) hd
    refine ⟨d, _, d_6, trivial, fun od => ?_⟩
    have he_6 : EntsAt K (upd H6 d (.frz od (.dK kvs))) kvs b.ws := (he.kp kp6 (NoSq.ins hm)).kp Kp.put (NoSq.dK d_6)
    have lk_6 : (upd H6 d (.frz od (.dK kvs))) d = some (.frz od (.dK kvs)) := upd_same
    refine ⟨_, rfl, d, od, rfl, .inl ⟨kvs, upd_same, fun d1 nD => dc_ents hk wf.wd few lk_6 nD (fun H z e => ∃ a, z = V.ref a ∧ SqT K H a (e.wishes.map V.str)) (fun _ _ _ _ k ⟨_, ea⟩ ⟨a, e, h⟩ => ⟨a, e, SqT.kp h k (NoSq.dK ea)⟩) (fun e hme H5' R k r => ?_) fun H5' k1x k eD pp => ?_⟩⟩
    · obtain ⟨i, hi, ei⟩ := List.mem_iff_getElem.mp hme
      have hi2 : i < kvs.length := by omega
      have eki : kvs[i]? = some kvs[i] := List.getElem?_eq_getElem hi2
      obtain ⟨e2, f1, f2, f3⟩ := Paired.at2 he_6 eki
      have f4 : e2 = e := by
        rw [List.getElem?_eq_getElem hi, ei] at f1
        exact (Option.some.inj f1).symm
      subst f4
      have gv : valV kvs (.inr e2.name) = some kvs[i].2 := valV_at (i := i) ndk (by rw [eki, ← f2])
      obtain ⟨t, w2, l2, ez, ht2, hw, hl2⟩ := f3.same k
      refine ⟨rfl, _, rfl, ?_⟩
      refine ⟨_, rfl, _, rfl, d, _, rfl, .inl ⟨kvs, .inr e2.name, .inr ⟨od, k _ _ lk_6⟩, rfl, gv.symm⟩, t, _, 0, _, ez, rfl, ht2, rfl, ?_⟩
      dsimp only [tNil]
      refine tupOf hw fun a H3 k3 e3 => r _ _ k3 ⟨a, rfl, e3⟩
    refine ⟨k _ _ lk_6, ?_⟩
    have s_6 : Same H6 (upd H5' d (.dK kvs)) := unlock k d_6
    have ned : d1 ≠ d := fun z => by rw [z, lk_6] at nD; cases nD
    have eD2 : (upd H5' d (.dK kvs)) d1 = some (.dK k1x) := by rw [upd_ne ned]; exact eD
    have N_d1 : H d1 = none := by
      rcases hq : H d1 with _ | o
      · rfl
      · have dm : d ≠ m := nm hd (by intros; simp)
        have nm2 : d1 ≠ m := fun z => by rw [z, upd_ne (Ne.symm dm), m6] at nD; cases nD
        have h2 := kp6 _ _ nm2 hq
        rw [upd_ne ned, h2] at nD
        cases nD
    have pp2 : TupsAt K (upd H5' d (.dK kvs)) k1x (b.ws.map fun e => (e.name, e.wishes)) := tups_of (Paired.imp2 (fun _ _ ⟨q, a, e, z⟩ => ⟨q, a, e, SqT.kp z Kp.put (NoSq.fdK (k _ _ lk_6))⟩) pp)
    have mk6 := s_6 _ _ m6
    have kk6 : Kp m H (upd H5' d (.dK kvs)) := kp6.trans (Same.kp s_6)
    have E1_7 := SqT.same E1_6 s_6
    have E2_7 := SqT.same E2_6 s_6
    clear k eD pp ned
    generalize upd H5' d (.dK kvs) = H7 at s_6 eD2 mk6 kk6 E1_7 E2_7 pp2 ⊢
    have D1_7 := eD2
    have P1_7 := pp2
    refine ⟨_, rfl, m, _, dx, _, rfl, mk6, cls_Menu F, no_Menu_wishes F, (by simp), ?_⟩
    have mm7 : H7 m = some (.ins (He.ga K "Menu") dx [("_things", .ref t1), ("_weathers", .ref t2)]) := mk6
    have kp8 : Kp m H (upd H7 m (.ins (He.ga K "Menu") dx (putF "_wishes" (.ref d1) [("_things", .ref t1), ("_weathers", .ref t2)]))) := kk6.trans Kp.put
    have E1_8 : SqT K (upd H7 m (.ins (He.ga K "Menu") dx (putF "_wishes" (.ref d1) [("_things", .ref t1), ("_weathers", .ref t2)]))) t1 (b.things.map V.str) := SqT.kp E1_7 Kp.put (NoSq.ins mm7)
    have E2_8 : SqT K (upd H7 m (.ins (He.ga K "Menu") dx (putF "_wishes" (.ref d1) [("_things", .ref t1), ("_weathers", .ref t2)]))) t2 (b.names.map V.str) := SqT.kp E2_7 Kp.put (NoSq.ins mm7)
    have D1_8 : (upd H7 m (.ins (He.ga K "Menu") dx (putF "_wishes" (.ref d1) [("_things", .ref t1), ("_weathers", .ref t2)]))) d1 = some (.dK k1x) := Kp.put _ _ (ne_of D1_7 mm7 (by intro z; cases z)) D1_7
    have P1_8 : TupsAt K (upd H7 m (.ins (He.ga K "Menu") dx (putF "_wishes" (.ref d1) [("_things", .ref t1), ("_weathers", .ref t2)]))) k1x (b.ws.map fun e => (e.name, e.wishes)) := TupsAt.kp P1_7 Kp.put (NoSq.ins mm7)
    have m8 : (upd H7 m (.ins (He.ga K "Menu") dx (putF "_wishes" (.ref d1) [("_things", .ref t1), ("_weathers", .ref t2)]))) m = some (.ins (He.ga K "Menu") dx [("_things", .ref t1), ("_weathers", .ref t2), ("_wishes", .ref d1)]) := upd_same
    generalize upd H7 m (.ins (He.ga K "Menu") dx (putF "_wishes" (.ref d1) [("_things", .ref t1), ("_weathers", .ref t2)])) = H8 at kp8 E1_8 E2_8 D1_8 P1_8 m8 ⊢
    have d_8 : H8 d = some (.dK kvs) := kp8 _ _ (nm hd (by intros; simp)) hd
    refine ⟨d, _, d_8, trivial, fun od => ?_⟩
    have he_8 : EntsAt K (upd H8 d (.frz od (.dK kvs))) kvs b.ws := (he.kp kp8 (NoSq.ins hm)).kp Kp.put (NoSq.dK d_8)
    have lk_8 : (upd H8 d (.frz od (.dK kvs))) d = some (.frz od (.dK kvs)) := upd_same
    refine ⟨_, rfl, d, od, rfl, .inl ⟨kvs, upd_same, fun d2 nD => dc_ents hk wf.wd few lk_8 nD (fun _ z e => z = .str e.back) (fun _ _ _ _ _ _ h => h) (fun e hme H5' R k r => ?_) fun H5' k2x k eD pp => ?_⟩⟩
    · obtain ⟨i, hi, ei⟩ := List.mem_iff_getElem.mp hme
      have hi2 : i < kvs.length := by omega
      have eki : kvs[i]? = some kvs[i] := List.getElem?_eq_getElem hi2
      obtain ⟨e2, f1, f2, f3⟩ := Paired.at2 he_8 eki
      have f4 : e2 = e := by
        rw [List.getElem?_eq_getElem hi, ei] at f1
        exact (Option.some.inj f1).symm
      subst f4
      have gv : valV kvs (.inr e2.name) = some kvs[i].2 := valV_at (i := i) ndk (by rw [eki, ← f2])
      obtain ⟨t, w2, l2, ez, ht2, hw, hl2⟩ := f3.same k
      refine ⟨rfl, _, rfl, ?_⟩
      refine ⟨_, rfl, _, rfl, d, _, rfl, .inl ⟨kvs, .inr e2.name, .inr ⟨od, k _ _ lk_8⟩, rfl, gv.symm⟩, t, _, 1, _, ez, rfl, ht2, rfl, ?_⟩
      exact r _ _ (Same.refl _) rfl
    refine ⟨k _ _ lk_8, ?_⟩
    have s_8 : Same H8 (upd H5' d (.dK kvs)) := unlock k d_8
    have ned : d2 ≠ d := fun z => by rw [z, lk_8] at nD; cases nD
    have eD2 : (upd H5' d (.dK kvs)) d2 = some (.dK k2x) := by rw [upd_ne ned]; exact eD
    have N_d2 : H d2 = none := by
      rcases hq : H d2 with _ | o
      · rfl
      · have dm : d ≠ m := nm hd (by intros; simp)
        have nm2 : d2 ≠ m := fun z => by rw [z, upd_ne (Ne.symm dm), m8] at nD; cases nD
        have h2 := kp8 _ _ nm2 hq
        rw [upd_ne ned, h2] at nD
        cases nD
    have pp2 : k2x = b.ws.map fun e => (Sum.inr e.name, V.str e.back) := paired_eq pp
    rw [pp2] at eD2
    have mk8 := s_8 _ _ m8
    have kk8 : Kp m H (upd H5' d (.dK kvs)) := kp8.trans (Same.kp s_8)
    have E1_9 := SqT.same E1_8 s_8
    have E2_9 := SqT.same E2_8 s_8
    have D1_9 := s_8 _ _ D1_8
    have P1_9 := TupsAt.same P1_8 s_8
    clear k eD pp ned 
    generalize upd H5' d (.dK kvs) = H9 at s_8 eD2 mk8 kk8 E1_9 E2_9 D1_9 P1_9 ⊢
    have D2_9 := eD2
    refine ⟨_, rfl, m, _, dx, _, rfl, mk8, cls_Menu F, no_Menu_back F, (by simp), ?_⟩
    have mm9 : H9 m = some (.ins (He.ga K "Menu") dx [("_things", .ref t1), ("_weathers", .ref t2), ("_wishes", .ref d1)]) := mk8
    have kp10 : Kp m H (upd H9 m (.ins (He.ga K "Menu") dx (putF "_back" (.ref d2) [("_things", .ref t1), ("_weathers", .ref t2), ("_wishes", .ref d1)]))) := kk8.trans Kp.put
    have E1_10 : SqT K (upd H9 m (.ins (He.ga K "Menu") dx (putF "_back" (.ref d2) [("_things", .ref t1), ("_weathers", .ref t2), ("_wishes", .ref d1)]))) t1 (b.things.map V.str) := SqT.kp E1_9 Kp.put (NoSq.ins mm9)
    have E2_10 : SqT K (upd H9 m (.ins (He.ga K "Menu") dx (putF "_back" (.ref d2) [("_things", .ref t1), ("_weathers", .ref t2), ("_wishes", .ref d1)]))) t2 (b.names.map V.str) := SqT.kp E2_9 Kp.put (NoSq.ins mm9)
    have D1_10 : (upd H9 m (.ins (He.ga K "Menu") dx (putF "_back" (.ref d2) [("_things", .ref t1), ("_weathers", .ref t2), ("_wishes", .ref d1)]))) d1 = some (.dK k1x) := Kp.put _ _ (ne_of D1_9 mm9 (by intro z; cases z)) D1_9
    have P1_10 : TupsAt K (upd H9 m (.ins (He.ga K "Menu") dx (putF "_back" (.ref d2) [("_things", .ref t1), ("_weathers", .ref t2), ("_wishes", .ref d1)]))) k1x (b.ws.map fun e => (e.name, e.wishes)) := TupsAt.kp P1_9 Kp.put (NoSq.ins mm9)
    have D2_10 : (upd H9 m (.ins (He.ga K "Menu") dx (putF "_back" (.ref d2) [("_things", .ref t1), ("_weathers", .ref t2), ("_wishes", .ref d1)]))) d2 = some (.dK (b.ws.map fun e => (Sum.inr e.name, V.str e.back))) := Kp.put _ _ (ne_of D2_9 mm9 (by intro z; cases z)) D2_9
    have m10 : (upd H9 m (.ins (He.ga K "Menu") dx (putF "_back" (.ref d2) [("_things", .ref t1), ("_weathers", .ref t2), ("_wishes", .ref d1)]))) m = some (.ins (He.ga K "Menu") dx [("_things", .ref t1), ("_weathers", .ref t2), ("_wishes", .ref d1), ("_back", .ref d2)]) := upd_same
    generalize upd H9 m (.ins (He.ga K "Menu") dx (putF "_back" (.ref d2) [("_things", .ref t1), ("_weathers", .ref t2), ("_wishes", .ref d1)])) = H10 at kp10 E1_10 E2_10 D1_10 P1_10 D2_10 m10 ⊢
    have d_10 : H10 d = some (.dK kvs) := kp10 _ _ (nm hd (by intros; simp)) hd
    refine ⟨d, _, d_10, trivial, fun od => ?_⟩
    have he_10 : EntsAt K (upd H10 d (.frz od (.dK kvs))) kvs b.ws := (he.kp kp10 (NoSq.ins hm)).kp Kp.put (NoSq.dK d_10)
    have lk_10 : (upd H10 d (.frz od (.dK kvs))) d = some (.frz od (.dK kvs)) := upd_same
    refine ⟨_, rfl, d, od, rfl, .inl ⟨kvs, upd_same, fun d3 nD => dc_ents hk wf.wd few lk_10 nD (fun H z e => ∃ a, z = V.ref a ∧ SqT K H a (e.later.map V.str)) (fun _ _ _ _ k ⟨_, ea⟩ ⟨a, e, h⟩ => ⟨a, e, SqT.kp h k (NoSq.dK ea)⟩) (fun e hme H5' R k r => ?_) fun H5' k3x k eD pp => ?_⟩⟩
    · obtain ⟨i, hi, ei⟩ := List.mem_iff_getElem.mp hme
      have hi2 : i < kvs.length := by omega
      have eki : kvs[i]? = some kvs[i] := List.getElem?_eq_getElem hi2
      obtain ⟨e2, f1, f2, f3⟩ := Paired.at2 he_10 eki
      have f4 : e2 = e := by
        rw [List.getElem?_eq_getElem hi, ei] at f1
        exact (Option.some.inj f1).symm
      subst f4
      have gv : valV kvs (.inr e2.name) = some kvs[i].2 := valV_at (i := i) ndk (by rw [eki, ← f2])
      obtain ⟨t, w2, l2, ez, ht2, hw, hl2⟩ := f3.same k
      refine ⟨rfl, _, rfl, ?_⟩
      refine ⟨_, rfl, _, rfl, d, _, rfl, .inl ⟨kvs, .inr e2.name, .inr ⟨od, k _ _ lk_10⟩, rfl, gv.symm⟩, t, _, 2, _, ez, rfl, ht2, rfl, ?_⟩
      dsimp only [tNil]
      refine tupOf hl2 fun a H3 k3 e3 => r _ _ k3 ⟨a, rfl, e3⟩
    refine ⟨k _ _ lk_10, ?_⟩
    have s_10 : Same H10 (upd H5' d (.dK kvs)) := unlock k d_10
    have ned : d3 ≠ d := fun z => by rw [z, lk_10] at nD; cases nD
    have eD2 : (upd H5' d (.dK kvs)) d3 = some (.dK k3x) := by rw [upd_ne ned]; exact eD
    have N_d3 : H d3 = none := by
      rcases hq : H d3 with _ | o
      · rfl
      · have dm : d ≠ m := nm hd (by intros; simp)
        have nm2 : d3 ≠ m := fun z => by rw [z, upd_ne (Ne.symm dm), m10] at nD; cases nD
        have h2 := kp10 _ _ nm2 hq
        rw [upd_ne ned, h2] at nD
        cases nD
    have pp2 : TupsAt K (upd H5' d (.dK kvs)) k3x (b.ws.map fun e => (e.name, e.later)) := tups_of (Paired.imp2 (fun _ _ ⟨q, a, e, z⟩ => ⟨q, a, e, SqT.kp z Kp.put (NoSq.fdK (k _ _ lk_10))⟩) pp)
    have mk10 := s_10 _ _ m10
    have kk10 : Kp m H (upd H5' d (.dK kvs)) := kp10.trans (Same.kp s_10)
    have E1_11 := SqT.same E1_10 s_10
    have E2_11 := SqT.same E2_10 s_10
    have D1_11 := s_10 _ _ D1_10
    have P1_11 := TupsAt.same P1_10 s_10
    have D2_11 := s_10 _ _ D2_10
    clear k eD pp ned
    generalize upd H5' d (.dK kvs) = H11 at s_10 eD2 mk10 kk10 E1_11 E2_11 D1_11 P1_11 D2_11 pp2 ⊢
    have D3_11 := eD2
    have P3_11 := pp2
    refine ⟨_, rfl, m, _, dx, _, rfl, mk10, cls_Menu F, no_Menu_later F, (by simp), ?_⟩
    have mm11 : H11 m = some (.ins (He.ga K "Menu") dx [("_things", .ref t1), ("_weathers", .ref t2), ("_wishes", .ref d1), ("_back", .ref d2)]) := mk10
    have kp12 : Kp m H (upd H11 m (.ins (He.ga K "Menu") dx (putF "_later" (.ref d3) [("_things", .ref t1), ("_weathers", .ref t2), ("_wishes", .ref d1), ("_back", .ref d2)]))) := kk10.trans Kp.put
    have E1_12 : SqT K (upd H11 m (.ins (He.ga K "Menu") dx (putF "_later" (.ref d3) [("_things", .ref t1), ("_weathers", .ref t2), ("_wishes", .ref d1), ("_back", .ref d2)]))) t1 (b.things.map V.str) := SqT.kp E1_11 Kp.put (NoSq.ins mm11)
    have E2_12 : SqT K (upd H11 m (.ins (He.ga K "Menu") dx (putF "_later" (.ref d3) [("_things", .ref t1), ("_weathers", .ref t2), ("_wishes", .ref d1), ("_back", .ref d2)]))) t2 (b.names.map V.str) := SqT.kp E2_11 Kp.put (NoSq.ins mm11)
    have D1_12 : (upd H11 m (.ins (He.ga K "Menu") dx (putF "_later" (.ref d3) [("_things", .ref t1), ("_weathers", .ref t2), ("_wishes", .ref d1), ("_back", .ref d2)]))) d1 = some (.dK k1x) := Kp.put _ _ (ne_of D1_11 mm11 (by intro z; cases z)) D1_11
    have P1_12 : TupsAt K (upd H11 m (.ins (He.ga K "Menu") dx (putF "_later" (.ref d3) [("_things", .ref t1), ("_weathers", .ref t2), ("_wishes", .ref d1), ("_back", .ref d2)]))) k1x (b.ws.map fun e => (e.name, e.wishes)) := TupsAt.kp P1_11 Kp.put (NoSq.ins mm11)
    have D2_12 : (upd H11 m (.ins (He.ga K "Menu") dx (putF "_later" (.ref d3) [("_things", .ref t1), ("_weathers", .ref t2), ("_wishes", .ref d1), ("_back", .ref d2)]))) d2 = some (.dK (b.ws.map fun e => (Sum.inr e.name, V.str e.back))) := Kp.put _ _ (ne_of D2_11 mm11 (by intro z; cases z)) D2_11
    have D3_12 : (upd H11 m (.ins (He.ga K "Menu") dx (putF "_later" (.ref d3) [("_things", .ref t1), ("_weathers", .ref t2), ("_wishes", .ref d1), ("_back", .ref d2)]))) d3 = some (.dK k3x) := Kp.put _ _ (ne_of D3_11 mm11 (by intro z; cases z)) D3_11
    have P3_12 : TupsAt K (upd H11 m (.ins (He.ga K "Menu") dx (putF "_later" (.ref d3) [("_things", .ref t1), ("_weathers", .ref t2), ("_wishes", .ref d1), ("_back", .ref d2)]))) k3x (b.ws.map fun e => (e.name, e.later)) := TupsAt.kp P3_11 Kp.put (NoSq.ins mm11)
    have m12 : (upd H11 m (.ins (He.ga K "Menu") dx (putF "_later" (.ref d3) [("_things", .ref t1), ("_weathers", .ref t2), ("_wishes", .ref d1), ("_back", .ref d2)]))) m = some (.ins (He.ga K "Menu") dx [("_things", .ref t1), ("_weathers", .ref t2), ("_wishes", .ref d1), ("_back", .ref d2), ("_later", .ref d3)]) := upd_same
    generalize upd H11 m (.ins (He.ga K "Menu") dx (putF "_later" (.ref d3) [("_things", .ref t1), ("_weathers", .ref t2), ("_wishes", .ref d1), ("_back", .ref d2)])) = H12 at kp12 E1_12 E2_12 D1_12 P1_12 D2_12 D3_12 P3_12 m12 ⊢
    have dx12 := kp12 _ _ (nm hdx (by intros; simp)) hdx
    exact q _ kp12 ⟨dx, t1, t2, d1, d2, d3, k1x, k3x, m12, dx12, E1_12, E2_12, D1_12, P1_12, D2_12, D3_12, P3_12, N_d1, N_d2, N_d3⟩

end
end K20

namespace K20
open PySem PySem.Spec PyProof.Rows L2 Gx
section
variable {P : Program} {w : World} {K : PySem.W.Frag} {mg : Str → Option Value} {base : Heap}
theorem cm_Menu_check_weather (F : Facts K mg) : CaM P w K mg base (L2.CX P w) 3 (He.ga K "Menu") "_check_weather" (spCheck K) := by
  obtain ⟨fd, D⟩ := fun_Menu_check_weather F
  refine ⟨_, fd, ["self", "value"], D.ok sc_Menu_check_weather (fun vs H Q E h => ?_) (fun cdv A outer s H vs Q E hr h => ?_), D.bindsN fun _ _ _ _ _ _ us hl => match us, hl with | [_, _], _ => rfl, me_Menu_check_weather F, cls_Menu F⟩
  · obtain ⟨_, _, _, rfl, _⟩ := h
    rfl
  · have hu := hu_of hr
    have hr2 : Room 2 _ := hr.mono (by decide)
    refine ⟨_, (pss_one (ps_if (pt_cmpR (op_notInT (Room.u1 hr)) (pv 1) (pe_fld (pv 0) rfl) (by rfl)) (pss_one (ps_raise rfl (takes_of rfl rfl rfl rfl) (pmk_exV (ex_BadWeather F) hr2 rfl (pa_cons (pv 1) pa_nil)))) pss_nil)), ?_⟩
    obtain ⟨m, b, x, rfl, hM, h⟩ := h
    obtain ⟨dx, t1, t2, d1, d2, d3, k1, k3, hm, hdx, h1, h2, h3, h4, h5, h6, h7⟩ := hM
    refine ⟨_, rfl, _, rfl, m, _, dx, _, _, rfl, hm, cls_Menu F, no_Menu_weathers F, rfl, ?_⟩
    have raise : BadX K H b x → OutW K H x E → ∀ (Z : Prop), True := fun _ _ _ => trivial
    rcases h with ⟨z, rfl, hz, q⟩ | ⟨bad, out⟩
    · refine ⟨t2, b.names, rfl, h2, .inl ⟨z, rfl, ?_⟩⟩
      rw [decide_eq_true hz]
      exact ⟨_, rfl, q⟩
    · have c : (∃ z, x = .str z ∧ z ∉ b.names) ∨ NoStr K H x := bad.symm
      have tail : ∀ (a : Addr), H a = none → ∀ d, upd H a (exo a (He.ga K "BadWeather") none) d = none → d ≠ a → H d = none := fun a na d nd ne => by rwa [upd_ne ne] at nd
      rcases c with ⟨z, rfl, hz⟩ | ns
      · refine ⟨t2, b.names, rfl, h2, .inl ⟨z, rfl, ?_⟩⟩
        rw [decide_eq_false hz]
        refine ⟨_, rfl, _, rfl, (by simp), fun a na => ⟨a, _, rfl, upd_same, fun d nd ne => ⟨rfl, d, _, upd_same, ?_, tail a na d nd ne, raised na (tail a na d nd ne) ne fun H' k e => out d H' (tail a na d nd ne) k e⟩⟩⟩
        rw [upd_ne ne]
        exact upd_same
      · refine ⟨t2, b.names, rfl, h2, .inr ⟨ns, ?_⟩⟩
        refine ⟨_, rfl, _, rfl, (by simp), fun a na => ⟨a, _, rfl, upd_same, fun d nd ne => ⟨rfl, d, _, upd_same, ?_, tail a na d nd ne, raised na (tail a na d nd ne) ne fun H' k e => out d H' (tail a na d nd ne) k e⟩⟩⟩
        rw [upd_ne ne]
        exact upd_same

theorem cm_Menu_wishes (F : Facts K mg) : CaM P w K mg base (L2.CX P w) 4 (He.ga K "Menu") "wishes" (spWishes K) := by
  obtain ⟨fd, D⟩ := fun_Menu_wishes F
  refine ⟨_, fd, ["self", "weather"], D.ok sc_Menu_wishes (fun vs H Q E h => ?_) (fun cdv A outer s H vs Q E hr h => ?_), D.bindsN fun _ _ _ _ _ _ us hl => match us, hl with | [_, _], _ => rfl, me_Menu_wishes F, cls_Menu F⟩
  · obtain ⟨_, _, _, rfl, _⟩ := h
    rfl
  · have hu := hu_of hr
    skip
    refine ⟨_, (pss_cons (ps_expr (pe_cm (cm_Menu_check_weather F) (hr.mono (by decide)) (passes_call (takes_of rfl rfl rfl rfl) fun _ _ _ _ h => h) (pv 0) (pa_cons (pv 1) pa_nil)))
    (pss_one (ps_ret (pe_callTy call_list_of (by rfl) (z_list F) (by decide +kernel) (pa_cons (pe_dget hu (pe_fld (pv 0) rfl) (pv 1) (fun _ _ => rfl)) pa_nil))))), ?_⟩
    obtain ⟨m, b, x, rfl, hM, nd, h⟩ := h
    have hM2 := hM
    obtain ⟨dx, t1, t2, d1, d2, d3, k1, k3, hm, hdx, h1, h2, h3, h4, h5, h6, h7⟩ := hM
    refine ⟨_, rfl, m, dx, _, rfl, hm, rfl, _, rfl, m, b, x, rfl, hM2, ?_⟩
    rcases h with ⟨e, he, rfl, q⟩ | ⟨bad, out⟩
    · refine .inl ⟨e.name, rfl, List.mem_map.mpr ⟨e, he, rfl⟩, ?_⟩
      obtain ⟨a, gv, ha⟩ := h4.get (f := Ent.wishes) nd he
      refine ⟨_, rfl, m, _, dx, _, _, rfl, hm, cls_Menu F, no_Menu_wishes F, rfl, _, rfl, d1, _, rfl, .inl ⟨_, .inr e.name, .inl h3, rfl, gv.symm⟩, ?_⟩
      exact ⟨a, _, rfl, .inr ha, q⟩
    · exact .inr ⟨bad, out⟩

theorem cm_Menu_back (F : Facts K mg) : CaM P w K mg base (L2.CX P w) 4 (He.ga K "Menu") "back" (spBack K) := by
  obtain ⟨fd, D⟩ := fun_Menu_back F
  refine ⟨_, fd, ["self", "weather"], D.ok sc_Menu_back (fun vs H Q E h => ?_) (fun cdv A outer s H vs Q E hr h => ?_), D.bindsN fun _ _ _ _ _ _ us hl => match us, hl with | [_, _], _ => rfl, me_Menu_back F, cls_Menu F⟩
  · obtain ⟨_, _, _, rfl, _⟩ := h
    rfl
  · have hu := hu_of hr
    skip
    refine ⟨_, (pss_cons (ps_expr (pe_cm (cm_Menu_check_weather F) (hr.mono (by decide)) (passes_call (takes_of rfl rfl rfl rfl) fun _ _ _ _ h => h) (pv 0) (pa_cons (pv 1) pa_nil)))
    (pss_one (ps_ret (pe_dget hu (pe_fld (pv 0) rfl) (pv 1) (fun _ _ => rfl))))), ?_⟩
    obtain ⟨m, b, x, rfl, hM, nd, h⟩ := h
    have hM2 := hM
    obtain ⟨dx, t1, t2, d1, d2, d3, k1, k3, hm, hdx, h1, h2, h3, h4, h5, h6, h7⟩ := hM
    refine ⟨_, rfl, m, dx, _, rfl, hm, rfl, _, rfl, m, b, x, rfl, hM2, ?_⟩
    rcases h with ⟨e, he, rfl, q⟩ | ⟨bad, out⟩
    · refine .inl ⟨e.name, rfl, List.mem_map.mpr ⟨e, he, rfl⟩, ?_⟩
      have gv := back_get nd he
      refine ⟨_, rfl, m, _, dx, _, _, rfl, hm, cls_Menu F, no_Menu_back F, rfl, _, rfl, d2, _, rfl, .inl ⟨_, .inr e.name, .inl h5, rfl, gv.symm⟩, ?_⟩
      exact q
    · exact .inr ⟨bad, out⟩

theorem cm_Menu_later (F : Facts K mg) : CaM P w K mg base (L2.CX P w) 4 (He.ga K "Menu") "later" (spLater K) := by
  obtain ⟨fd, D⟩ := fun_Menu_later F
  refine ⟨_, fd, ["self", "weather"], D.ok sc_Menu_later (fun vs H Q E h => ?_) (fun cdv A outer s H vs Q E hr h => ?_), D.bindsN fun _ _ _ _ _ _ us hl => match us, hl with | [_, _], _ => rfl, me_Menu_later F, cls_Menu F⟩
  · obtain ⟨_, _, _, rfl, _⟩ := h
    rfl
  · have hu := hu_of hr
    skip
    refine ⟨_, (pss_cons (ps_expr (pe_cm (cm_Menu_check_weather F) (hr.mono (by decide)) (passes_call (takes_of rfl rfl rfl rfl) fun _ _ _ _ h => h) (pv 0) (pa_cons (pv 1) pa_nil)))
    (pss_one (ps_ret (pe_callTy call_list_of (by rfl) (z_list F) (by decide +kernel) (pa_cons (pe_dget hu (pe_fld (pv 0) rfl) (pv 1) (fun _ _ => rfl)) pa_nil))))), ?_⟩
    obtain ⟨m, b, x, rfl, hM, nd, h⟩ := h
    have hM2 := hM
    obtain ⟨dx, t1, t2, d1, d2, d3, k1, k3, hm, hdx, h1, h2, h3, h4, h5, h6, h7⟩ := hM
    refine ⟨_, rfl, m, dx, _, rfl, hm, rfl, _, rfl, m, b, x, rfl, hM2, ?_⟩
    rcases h with ⟨e, he, rfl, q⟩ | ⟨bad, out⟩
    · refine .inl ⟨e.name, rfl, List.mem_map.mpr ⟨e, he, rfl⟩, ?_⟩
      obtain ⟨a, gv, ha⟩ := h7.get (f := Ent.later) nd he
      refine ⟨_, rfl, m, _, dx, _, _, rfl, hm, cls_Menu F, no_Menu_later F, rfl, _, rfl, d3, _, rfl, .inl ⟨_, .inr e.name, .inl h6, rfl, gv.symm⟩, ?_⟩
      exact ⟨a, _, rfl, .inr ha, q⟩
    · exact .inr ⟨bad, out⟩

end
end K20

namespace K20
open PySem PySem.Spec PyProof.Rows L2 Gx
section
variable {P : Program} {w : World} {K : PySem.W.Frag} {mg : Str → Option Value} {base : Heap}
theorem cm_Menu_eq (F : Facts K mg) : CaM P w K mg base (CX0) 1 (He.ga K "Menu") "__eq__" (spEqM K) := by
  obtain ⟨fd, D⟩ := fun_Menu_eq F
  refine ⟨_, fd, ["self", "other"], D.ok sc_Menu_eq (fun vs H Q E h => ?_) (fun cdv A outer s H vs Q E hr h => ?_), D.bindsN fun _ _ _ _ _ _ us hl => match us, hl with | [_, _], _ => rfl, me_Menu_eq F, cls_Menu F⟩
  · obtain ⟨_, _, _, rfl, _⟩ := h
    rfl
  · have hu := hu_of hr
    skip
    refine ⟨_, PSs.nox (pss_one (ps_ret (pe_and (pe_callB call_isi (by rfl) (z_isinstance F) (by decide +kernel) (pa_cons (pv 1) (pa_cons (pe_glob (v := .ref (He.ga K "Menu")) rfl (g_Menu F) rfl) pa_nil))) (pe_and (pe_cmpR (op_eqD hr.units) (pe_fld (pv 0) rfl) (pe_fld (pv 1) rfl) (nomark _)) (pe_and (pe_cmpR (op_eqD hr.units) (pe_fld (pv 0) rfl) (pe_fld (pv 1) rfl) (nomark _)) (pe_and (pe_cmpR (op_eqDD (Room.u65 hr)) (pe_fld (pv 0) rfl) (pe_fld (pv 1) rfl) (nomark _)) (pe_and (pe_cmpR (op_eqDD (Room.u65 hr)) (pe_fld (pv 0) rfl) (pe_fld (pv 1) rfl) (nomark _)) (pe_one (pe_cmpR (op_eqDD (Room.u65 hr)) (pe_fld (pv 0) rfl) (pe_fld (pv 1) rfl) (nomark _)))))))))), ?_⟩
    obtain ⟨m, y, b, rfl, hM, h⟩ := h
    rcases h with ⟨m2, c, rfl, gM, wf, wg, q⟩ | ⟨⟨T, ty, hT⟩, q⟩
    · obtain ⟨dx, t1, t2, d1, d2, d3, k1, k3, hm, hdx, h1, h2, h3, h4, h5, h6, h7⟩ := hM
      obtain ⟨ex, u1, u2, e1, e2, e3, j1, j3, gm, gdx, g1, g2, g3, g4, g5, g6, g7⟩ := gM
      have c1 : decide (b.things = c.things) = false → decide (b = c) = false := fun e => by
        rw [← eqB_eq, eqB, e]
        rfl
      have c2 : decide (b.things = c.things) = true → decide (b.names = c.names) = false → decide (b = c) = false := fun e f => by
        rw [← eqB_eq, eqB, e, f]
        rfl
      have c3 : decide (b.things = c.things) = true → decide (b.names = c.names) = true → decide (b.ws.map Ent.wishes = c.ws.map Ent.wishes) = false → decide (b = c) = false := fun e f i => by
        rw [← eqB_eq, eqB, e, f, i]
        rfl
      have c4 : decide (b.things = c.things) = true → decide (b.names = c.names) = true → decide (b.ws.map Ent.wishes = c.ws.map Ent.wishes) = true → decide (b.ws.map Ent.back = c.ws.map Ent.back) = false → decide (b = c) = false := fun e f i j => by
        rw [← eqB_eq, eqB, e, f, i, j]
        rfl
      have c5 : decide (b.things = c.things) = true → decide (b.names = c.names) = true → decide (b.ws.map Ent.wishes = c.ws.map Ent.wishes) = true → decide (b.ws.map Ent.back = c.ws.map Ent.back) = true → decide (b = c) = decide (b.ws.map Ent.later = c.ws.map Ent.later) := fun e f i j => by
        rw [← eqB_eq, eqB, e, f, i, j]
        rfl
      refine ⟨_, rfl, _, .ref (He.ga K "Menu"), _, _, true, rfl, .own _, (menuI F).ty (cls_Menu F) gm, (menuI F).kit, ?_⟩
      refine ⟨_, rfl, ?_⟩
      refine ⟨_, rfl, m, _, dx, _, _, rfl, hm, cls_Menu F, no_Menu_things F, rfl, _, rfl, m2, _, ex, _, _, rfl, gm, cls_Menu F, no_Menu_things F, rfl, _, _, dp_t h1, dp_t g1, shape_t wf.okT, shape_t wg.okT, ?_⟩
      rw [eqv_t]
      refine ⟨_, rfl, ?_⟩
      cases z1 : decide (b.things = c.things) with
      | false =>
        rw [c1 z1] at q
        exact q
      | true =>
      refine ⟨_, rfl, m, _, dx, _, _, rfl, hm, cls_Menu F, no_Menu_weathers F, rfl, _, rfl, m2, _, ex, _, _, rfl, gm, cls_Menu F, no_Menu_weathers F, rfl, _, _, dp_t h2, dp_t g2, shape_t wf.okN, shape_t wg.okN, ?_⟩
      rw [eqv_t]
      refine ⟨_, rfl, ?_⟩
      cases z2 : decide (b.names = c.names) with
      | false =>
        rw [c2 z1 z2] at q
        exact q
      | true =>
      have nn : b.names = c.names := of_decide_eq_true z2
      have kw : ∀ {f f2 : Ent → List Str} {x y : List (Key × V)}, TupsAt K H x (b.ws.map fun e => (e.name, f e)) → TupsAt K H y (c.ws.map fun e => (e.name, f2 e)) → x.map (·.1) = y.map (·.1) ∧ (y.map (·.1)).Nodup := fun {f f2 x y} h k => by
        have p1 : (b.ws.map fun e => (e.name, f e)).map (·.1) = b.names := by rw [List.map_map]; rfl
        have p2 : (c.ws.map fun e => (e.name, f2 e)).map (·.1) = c.names := by rw [List.map_map]; rfl
        rw [h.keys, k.keys, p1, p2, nn]
        exact ⟨rfl, nodup_inr wg.wd⟩
      have dw : ∀ {d : Bs} (f : Ent → List Str), (d.ws.map fun e => (e.name, f e)).map (fun p => dT p.2) = (d.ws.map f).map dT := fun {d} f => by rw [List.map_map, List.map_map]; rfl
      have sh : ∀ {d : Bs} (f : Ent → List Str), (∀ e ∈ d.ws, ∀ x ∈ f e, okS x) → ∀ z ∈ (d.ws.map f).map dT, SeqAt.shaped z = true := fun {d} f h z hz => by
        obtain ⟨l, hl, rfl⟩ := List.mem_map.mp hz
        obtain ⟨e, he, rfl⟩ := List.mem_map.mp hl
        exact shape_t (h e he)
      have kk := kw (f := Ent.wishes) (f2 := Ent.wishes) h4 g4
      have w1 := h4.dp
      have w2 := g4.dp
      rw [dw Ent.wishes] at w1 w2
      refine ⟨_, rfl, m, _, dx, _, _, rfl, hm, cls_Menu F, no_Menu_wishes F, rfl, _, rfl, m2, _, ex, _, _, rfl, gm, cls_Menu F, no_Menu_wishes F, rfl, d1, e1, k1, j1, _, _, rfl, rfl, h3, g3, kk.1, kk.2, w1, w2, sh _ (fun e he => (wf.okW he).1), sh _ (fun e he => (wg.okW he).1), ?_⟩
      rw [eqv_ts]
      refine ⟨_, rfl, ?_⟩
      cases z3 : decide (b.ws.map Ent.wishes = c.ws.map Ent.wishes) with
      | false =>
        rw [c3 z1 z2 z3] at q
        exact q
      | true =>
      have bk : ∀ d : Bs, (d.ws.map fun e => ((Sum.inr e.name : Key), V.str e.back)).map (·.2) = (d.ws.map Ent.back).map V.str := fun d => by rw [List.map_map, List.map_map]; rfl
      have bk1 : ∀ d : Bs, (d.ws.map fun e => ((Sum.inr e.name : Key), V.str e.back)).map (·.1) = d.names.map Sum.inr := fun d => by unfold Bs.names; rw [List.map_map, List.map_map]; rfl
      have bd : ∀ d : Bs, DpAll K H ((d.ws.map fun e => ((Sum.inr e.name : Key), V.str e.back)).map (·.2)) ((d.ws.map Ent.back).map .str) := fun d => by rw [bk d]; exact dp_strs _
      have bs : ∀ {d : Bs}, WF d → ∀ z ∈ (d.ws.map Ent.back).map PyData.str, SeqAt.shaped z = true := fun {d} wd z hz => by
        obtain ⟨l, hl, rfl⟩ := List.mem_map.mp hz
        obtain ⟨e, he, rfl⟩ := List.mem_map.mp hl
        exact shape_s (wd.okW he).2.1
      refine ⟨_, rfl, m, _, dx, _, _, rfl, hm, cls_Menu F, no_Menu_back F, rfl, _, rfl, m2, _, ex, _, _, rfl, gm, cls_Menu F, no_Menu_back F, rfl, d2, e2, _, _, _, _, rfl, rfl, h5, g5, by rw [bk1, bk1, nn], by rw [bk1]; exact nodup_inr wg.wd, bd b, bd c, bs wf, bs wg, ?_⟩
      rw [eqv_strs]
      refine ⟨_, rfl, ?_⟩
      cases z4 : decide (b.ws.map Ent.back = c.ws.map Ent.back) with
      | false =>
        rw [c4 z1 z2 z3 z4] at q
        exact q
      | true =>
      rw [c5 z1 z2 z3 z4] at q
      have kl := kw (f := Ent.later) (f2 := Ent.later) h7 g7
      have v1 := h7.dp
      have v2 := g7.dp
      rw [dw Ent.later] at v1 v2
      refine ⟨_, rfl, m, _, dx, _, _, rfl, hm, cls_Menu F, no_Menu_later F, rfl, _, rfl, m2, _, ex, _, _, rfl, gm, cls_Menu F, no_Menu_later F, rfl, d3, e3, k3, j3, _, _, rfl, rfl, h6, g6, kl.1, kl.2, v1, v2, sh _ (fun e he => (wf.okW he).2.2), sh _ (fun e he => (wg.okW he).2.2), ?_⟩
      rw [eqv_ts]
      exact q
    · refine ⟨_, rfl, _, .ref (He.ga K "Menu"), _, _, false, rfl, .own _, ty, (menuTy F hT).1, ?_⟩
      exact ⟨_, rfl, q⟩

end
end K20

namespace K20
open PySem PySem.Spec PyProof.Rows L2 Gx
section
variable {P : Program} {w : World} {K : PySem.W.Frag} {mg : Str → Option Value} {base : Heap}

theorem seqIx {r : Int} {n : Nat} (h0 : 0 ≤ r) (h1 : r < n) : seqIndex? r n = some r.toNat := by
  unfold seqIndex?
  simp only [show ¬ r < 0 from by omega, if_false]
  rw [if_pos]
  simp only [Bool.and_eq_true, decide_eq_true_eq]
  exact ⟨h0, h1⟩
theorem erase_mapF {α β : Type} (f : α → β) : ∀ (xs : List α) (i : Nat), (xs.map f).eraseIdx i = (xs.eraseIdx i).map f
  | [], i => by simp
  | a :: xs, 0 => by simp
  | a :: xs, i + 1 => by simp [erase_mapF f xs i]
theorem erase_map (xs : List Str) (i : Nat) : (xs.map V.str).eraseIdx i = (xs.eraseIdx i).map V.str := erase_mapF _ xs i
theorem perm_erase {α : Type} : ∀ {xs : List α} {i : Nat} {x : α}, xs[i]? = some x → xs.Perm (x :: xs.eraseIdx i)
  | [], i, x, h => by simp at h
  | a :: xs, 0, x, h => by
    simp at h
    subst h
    simp
  | a :: xs, i + 1, x, h => by
    simp only [List.getElem?_cons_succ] at h
    rw [List.eraseIdx_cons_succ]
    exact (List.Perm.cons a (perm_erase h)).trans (List.Perm.swap x a _)
theorem ca_law_draw (F : Facts K mg) : Ca P w K mg base CX0 1 "_law_draw" (spDraw) := by
  obtain ⟨fd, D⟩ := fun_law_draw F
  refine ⟨_, fd, ["source", "span"], D.ok sc_law_draw (fun vs H Q E h => ?_) (fun cdv A outer s H vs Q E hr h => ?_), D.bindsN fun _ _ _ _ _ _ us hl => match us, hl with | [_, _], _ => rfl, g__law_draw F, D.kp⟩
  · obtain ⟨_, _, rfl, _⟩ := h
    rfl
  · have hu := hu_of hr
    skip
    refine ⟨_, PSs.nox (pss_cons (ps_if (pt_cmpR op_ge (pe_ix (ix_listK (K := K) rfl) (pv 0) pe_int (fun _ _ => rfl)) (pv 1) (nomark _)) (pss_cons (ps_set (i := 2) sc_law_draw.nd rfl (Or.inl rfl) (pe_op op_mod (pe_callTy call_int1 (by rfl) (z_int F) (by decide +kernel) (pa_cons (pe_ix (ix_listK (K := K) rfl) (pv 0) pe_int (fun _ _ => rfl)) pa_nil)) (pv 1)))
    (pss_cons (ps_asg (pe_op op_fdiv (pe_ix (ix_listK (K := K) rfl) (pv 0) pe_int (fun _ _ => rfl)) (pv 1)) (pg_sub (pv 0) pe_int set_list))
    (pss_one (ps_ret (pv 2))))) pss_nil)
    (pss_cons (ps_asg (pe_op op_mod (pe_callTy call_int1 (by rfl) (z_int F) (by decide +kernel) (pa_cons (pe_op op_add (pe_op op_mul (pe_ix (ix_listK (K := K) rfl) (pv 0) pe_int (fun _ _ => rfl)) pe_int) pe_int) pa_nil)) pe_int) (pg_sub (pv 0) pe_int set_list))
    (pss_one (ps_ret (pe_op op_mod (pe_callTy call_int1 (by rfl) (z_int F) (by decide +kernel) (pa_cons (pe_op op_fdiv (pe_op op_mod (pe_callTy call_int1 (by rfl) (z_int F) (by decide +kernel) (pa_cons (pe_op op_powW (pe_callTy call_int1 (by rfl) (z_int F) (by decide +kernel) (pa_cons (pe_ix (ix_listK (K := K) rfl) (pv 0) pe_int (fun _ _ => rfl)) pa_nil)) pe_int) pa_nil)) pe_int) pe_int) pa_nil)) (pv 1)))))), ?_⟩
    obtain ⟨p, k, rfl, ⟨x, y, hp, hx, hy, hy2⟩, k0, k1, q⟩ := h
    refine ⟨_, rfl, p, _, 0, .int x, rfl, rfl, SqL.of hp, rfl, _, rfl, x, k, rfl, rfl, _, rfl, ?_⟩
    refine ite2 (fun c => ?_) (fun c => ?_)
    · refine ⟨_, rfl, p, _, 0, .int x, rfl, rfl, SqL.of hp, rfl, .inl ⟨x, rfl, ?_⟩⟩
      refine ⟨_, rfl, x, k, rfl, rfl, k0, ?_⟩
      refine ⟨_, rfl, p, _, 0, .int x, rfl, rfl, SqL.of hp, rfl, _, rfl, x, k, rfl, rfl, ⟨k0, k1⟩, ?_⟩
      refine ⟨_, rfl, p, _, 0, 0, rfl, rfl, hp, rfl, ?_⟩
      exact ⟨_, rfl, q _ _ (Int.emod_nonneg _ (by omega)) (Int.emod_lt_of_pos _ k0) ⟨_, y, rfl, Int.ediv_nonneg hx (by omega), hy, hy2⟩⟩
    · have z0 := Int.emod_nonneg (y * 48271 + 7129) (by decide : (2147483647 : Int) ≠ 0)
      have z1 := Int.emod_lt_of_pos (y * 48271 + 7129) (by decide : (0 : Int) < 2147483647)
      refine ⟨_, rfl, p, _, 1, .int y, rfl, rfl, SqL.of hp, rfl, y, 48271, rfl, rfl, .inl ⟨by omega, by omega⟩, _, 7129, rfl, rfl, .inl ⟨_, rfl, _, 2147483647, rfl, rfl, by dsimp only; omega, ?_⟩⟩
      refine ⟨_, rfl, p, _, 1, 1, rfl, rfl, hp, rfl, ?_⟩
      refine ⟨_, rfl, p, _, 1, .int _, rfl, rfl, SqL.of upd_same, rfl, .inl ⟨_, rfl, _, 5, rfl, rfl, ⟨by decide, ?_⟩, .inl ⟨_, rfl, _, 1000000007, rfl, rfl, by dsimp only; omega, _, 31, rfl, rfl, ⟨by decide, by decide⟩, .inl ⟨_, rfl, _, rfl, _, k, rfl, rfl, k0, ?_⟩⟩⟩⟩
      · have b := bits_of_lt (a := (y * 48271 + 7129) % 2147483647) (k := 31) (by omega)
        omega
      · exact q _ _ (Int.emod_nonneg _ (by omega)) (Int.emod_lt_of_pos _ k0) ⟨x, _, rfl, hx, z0, by omega⟩

theorem ca_law_source (F : Facts K mg) : Ca P w K mg base CX0 1 "_law_source" (spSource K) := by
  obtain ⟨fd, D⟩ := fun_law_source F
  refine ⟨_, fd, ["script", "start"], D.ok sc_law_source (fun vs H Q E h => ?_) (fun cdv A outer s H vs Q E hr h => ?_), D.bindsN fun _ _ _ _ _ _ us hl => match us, hl with | [_, _], _ => rfl, g__law_source F, D.kp⟩
  · obtain ⟨_, _, _, rfl, _⟩ := h
    rfl
  · have hu := hu_of hr
    skip
    refine ⟨_, PSs.nox (pss_cons (ps_set (i := 2) sc_law_source.nd rfl (Or.inl rfl) (pe_op op_add pe_int (pv 1)))
    (pss_cons (ps_for PassesOwn.never rfl (pi_list (pv 0)) (pg_name (i := 3) sc_law_source.nd rfl (Or.inl rfl))
      (pss_one (ps_set (i := 2) sc_law_source.nd rfl (Or.inl rfl) (pe_op op_add (pe_op op_mod (pe_callTy call_int1 (by rfl) (z_int F) (by decide +kernel) (pa_cons (pe_op op_powW (pe_callTy call_int1 (by rfl) (z_int F) (by decide +kernel) (pa_cons (pe_op op_add (pe_op op_mul (pv 2) pe_int) (pe_callTy call_int1 (by rfl) (z_int F) (by decide +kernel) (pa_cons (pv 3) pa_nil))) pa_nil)) pe_int) pa_nil)) pe_int) pe_int))))
    (pss_cons (ps_set (i := 4) sc_law_source.nd rfl (Or.inl rfl) pe_int)
    (pss_cons (ps_if (PW.pt (pw_and (pt_cmpR op_lt (pv 1) (pe_callB call_len (by rfl) (z_len F) boot_len (pa_cons (pv 0) pa_nil)) (nomark _)) (pw_and1 (pt_cmpR op_ge (pe_ix (ix_listK (K := K) rfl) (pv 0) (pv 1) (fun _ _ => rfl)) (pe_op op_powW pe_int pe_int) (nomark _))))) (pss_one (ps_set (i := 4) sc_law_source.nd rfl (Or.inl rfl) (pe_op op_sub (pe_ix (ix_listK (K := K) rfl) (pv 0) (pv 1) (fun _ _ => rfl)) (pe_op op_powW pe_int pe_int)))) pss_nil)
    (pss_one (ps_ret (pe_lst (pa_cons (pv 4) (pa_cons (pv 2) pa_nil))))))))), ?_⟩
    obtain ⟨a, ns, st, rfl, hS, hl, hb, s0, s1, q⟩ := h
    refine ⟨_, rfl, 83, st, rfl, rfl, ?_⟩
    refine ⟨_, rfl, a, rfl, ⟨_, hS⟩, ?_⟩
    refine for_list (K := K) (xs := ns.map V.int) (fun i σ H' => ∃ (m : Int) (c : Option V), 0 ≤ m ∧ m < 2147483648 ∧ H' = H ∧ σ = [some (.ref a), some (.int st), some (.int m), c, none]) ⟨_, none, by omega, by omega, rfl, rfl⟩ (fun i σ H' _ p => ?_) (fun i x σ H' hx p => ?_) (fun σ H' p => ?_)
    · obtain ⟨m, c, _, _, rfl, _⟩ := p
      exact hS
    · obtain ⟨m, c, m0, m1, rfl, rfl⟩ := p
      rw [List.getElem?_map] at hx
      obtain ⟨z, hz, rfl⟩ := Option.map_eq_some_iff.mp hx
      refine ⟨_, rfl, m, 90007, rfl, rfl, .inl ⟨by omega, by omega⟩, _, rfl, .inl ⟨z, rfl, _, z, rfl, rfl, .inl ⟨_, rfl, _, 3, rfl, rfl, ⟨by decide, ?_⟩, .inl ⟨_, rfl, _, 2147483563, rfl, rfl, by dsimp only; omega, _, 1, rfl, rfl, ?_⟩⟩⟩⟩
      · have b := Gx.bits_add (bits_mono (bits_of_lt (a := m * 90007) (k := 49) (by omega)) (by decide : 49 ≤ 1048576)) (hb z (List.mem_of_getElem? hz))
        omega
      · have h0 := Int.emod_nonneg ((m * 90007 + z) ^ (3 : Int).toNat) (by decide : (2147483563 : Int) ≠ 0)
        have h1 := Int.emod_lt_of_pos ((m * 90007 + z) ^ (3 : Int).toNat) (by decide : (0 : Int) < 2147483563)
        exact ⟨_, some (.int z), by omega, by omega, rfl, rfl⟩
    · obtain ⟨m, c, m0, m1, rfl, rfl⟩ := p
      have fin : ∀ (o : Int), 0 ≤ o → ∀ l, H' l = none → Q (.ref l) (upd H' l (.lst [.int o, .int m])) := fun o h0 l hl => q _ _ hl ⟨o, m, rfl, h0, m0, m1⟩
      refine ⟨_, rfl, _, rfl, _, _, rfl, .inl ⟨_, hS, rfl⟩, st, _, rfl, rfl, _, rfl, ?_⟩
      refine ite2 (fun c => ?_) (fun c => ?_)
      · have c2 : st < (ns.map V.int).length := of_decide_eq_true c
        rw [List.length_map] at c2
        have hz : ns[st.toNat]? = some (ns[st.toNat]'(by omega)) := List.getElem?_eq_getElem _
        have hat : atI (ns.map V.int) st = some (.int (ns[st.toNat]'(by omega))) := by
          have e := atI_nat (xs := ns.map V.int) (j := st.toNat) (v := .int (ns[st.toNat]'(by omega))) (by rw [List.getElem?_map, hz]; rfl)
          rwa [Int.toNat_of_nonneg s0] at e
        refine ⟨_, rfl, _, rfl, a, _, st, _, rfl, rfl, hS, hat, 10, 18, rfl, rfl, ⟨by decide, by decide⟩, _, _, rfl, rfl, _, rfl, ?_⟩
        refine ite2 (fun d => ?_) (fun d => ?_)
        · have d2 := of_decide_eq_true d
          refine ⟨_, rfl, _, rfl, a, _, st, _, rfl, rfl, hS, hat, 10, 18, rfl, rfl, ⟨by decide, by decide⟩, _, _, rfl, rfl, ?_⟩
          exact ⟨_, rfl, _, rfl, (by show 2 ≤ sizeLine; decide), fin _ (by omega)⟩
        · exact ⟨_, rfl, _, rfl, (by show 2 ≤ sizeLine; decide), fin 0 (by omega)⟩
      · exact ⟨_, rfl, _, rfl, (by show 2 ≤ sizeLine; decide), fin 0 (by omega)⟩

theorem ca_law_pick (F : Facts K mg) : Ca P w K mg base CX0 2 "_law_pick" (spPick K) := by
  obtain ⟨fd, D⟩ := fun_law_pick F
  refine ⟨_, fd, ["source", "some"], D.ok sc_law_pick (fun vs H Q E h => ?_) (fun cdv A outer s H vs Q E hr h => ?_), D.bindsN fun _ _ _ _ _ _ us hl => match us, hl with | [_, _], _ => rfl, g__law_pick F, D.kp⟩
  · obtain ⟨_, _, rfl, _⟩ := h
    rfl
  · have hu := hu_of hr
    skip
    refine ⟨_, PSs.nox (pss_one (ps_ret (pe_ix ix_seq (pv 1) (pe_ca (ca_law_draw F) (hr.mono (by decide)) rfl pass0 (pa_cons (pv 0) (pa_cons (pe_callB call_len (by rfl) (z_len F) boot_len (pa_cons (pv 1) pa_nil)) pa_nil))) (fun _ _ => rfl)))), ?_⟩
    obtain ⟨p, w2, rfl, hs, h⟩ := h
    have hs0 := hs
    obtain ⟨sx, sy, sp, _⟩ := hs
    rcases h with ⟨b, vs, rfl, hv, h0, h1, ne, q⟩ | ⟨z, rfl, h0, h1, q⟩
    · refine ⟨_, rfl, _, rfl, _, rfl, _, _, rfl, .inl ⟨_, hv, rfl⟩, ?_⟩
      refine ⟨p, _, rfl, hs0, by omega, by omega, fun r o r0 r1 ho => ?_⟩
      have e : vs[r.toNat]? = some (vs[r.toNat]'(by omega)) := List.getElem?_eq_getElem _
      have hat := atI_nat e
      rw [Int.toNat_of_nonneg r0] at hat
      have hv2 : SqL K (upd H p o) b vs := by
        rcases hv with (hv | ⟨ob, hv⟩) | hv
        · exact .inl (.inl (by rw [upd_ne ne]; exact hv))
        · exact .inl (.inr ⟨ob, by rw [upd_ne ne]; exact hv⟩)
        · exact .inr hv
      exact .inl ⟨b, vs, r, _, rfl, rfl, hv2, hat, q _ o (List.mem_of_getElem? e) ho⟩
    · have hz : z.length ≤ sizeLine := Nat.le_trans (Nat.le_of_lt h1) (by decide)
      refine ⟨_, rfl, _, rfl, _, rfl, _, _, rfl, ⟨hz, rfl⟩, ?_⟩
      refine ⟨p, _, rfl, hs0, by omega, by omega, fun r o r0 r1 ho => ?_⟩
      have zl : z.cps.toList.length = z.length := by rw [Array.length_toList]; rfl
      have e : z.cps.toList[r.toNat]? = some (z.cps.toList[r.toNat]'(by omega)) := List.getElem?_eq_getElem _
      have hat := atI_nat e
      rw [Int.toNat_of_nonneg r0] at hat
      exact .inr (.inr ⟨z, r, _, rfl, rfl, hz, hat, q _ o (List.mem_of_getElem? e) ho⟩)

theorem ca_law_mixed (F : Facts K mg) : Ca P w K mg base CX0 2 "_law_mixed" (spMixed K) := by
  obtain ⟨fd, D⟩ := fun_law_mixed F
  refine ⟨_, fd, ["source", "some"], D.ok sc_law_mixed (fun vs H Q E h => ?_) (fun cdv A outer s H vs Q E hr h => ?_), D.bindsN fun _ _ _ _ _ _ us hl => match us, hl with | [_, _], _ => rfl, g__law_mixed F, D.kp⟩
  · obtain ⟨_, _, _, rfl, _⟩ := h
    rfl
  · have hu := hu_of hr
    skip
    refine ⟨_, PSs.nox (pss_cons (ps_par (i := 2) (j := 3) (by rfl) sc_law_mixed.nd rfl rfl (by decide) rfl rfl (pa_cons (pe_callTy call_list_of (by rfl) (z_list F) (by decide +kernel) (pa_cons (pv 1) pa_nil)) (pa_cons (pe_lst pa_nil) pa_nil)) (by rfl))
    (pss_cons (ps_while PassesOwn.never (pt_cmpR (op_neD hr.units) (pv 2) (pe_lst pa_nil) (nomark _))
      (pss_one (ps_expr (pe_bm PySem.F.plainAttrs_list PySem.F.slot_list_append PySem.F.type_list_append mt_append (pv 3) (pa_cons (pe_bm PySem.F.plainAttrs_list PySem.F.slot_list_pop PySem.F.type_list_pop mt_popAt (pv 2) (pa_cons (pe_ca (ca_law_draw F) (hr.mono (by decide)) rfl pass0 (pa_cons (pv 0) (pa_cons (pe_callB call_len (by rfl) (z_len F) boot_len (pa_cons (pv 2) pa_nil)) pa_nil))) pa_nil)) pa_nil)))))
    (pss_one (ps_ret (pv 3))))), ?_⟩
    obtain ⟨p, a, xs, rfl, hs, nap, hx, few, ok, q⟩ := h
    refine ⟨_, rfl, a, _, rfl, hx, fun l n1 => ?_⟩
    generalize g1 : upd _ l _ = H1
    obtain ⟨k1, e1, _⟩ := laid g1 n1
    refine ⟨(by show 0 ≤ sizeLine; decide), fun f n2 => ?_⟩
    generalize g2 : upd _ f _ = H2
    obtain ⟨k2, e2, _⟩ := laid g2 n2
    have lp : l ≠ p := hs.old n1
    have fp : f ≠ p := (hs.same k1).old n2
    have lf : l ≠ f := fun z => by rw [z, n2] at e1; cases e1
    have n2' : H f = none := none_old k1 n2
    refine ⟨_, _, rfl, ?_⟩
    refine while_by (fun σ H' => ∃ lot found : List Str, σ = [some (.ref p), some (.ref a), some (.ref l), some (.ref f)] ∧ Kp p H H' ∧ SrcAt H' p ∧ H' l = some (.lst (lot.map V.str)) ∧ H' f = some (.lst (found.map V.str)) ∧ (found ++ lot).Perm xs) (fun _ H' => match H' l with | some (.lst ys) => ys.length | _ => 0)
      ⟨xs, [], rfl, Same.kp (k1.trans k2), (hs.same k1).same k2, k2 _ _ e1, e2, by simp⟩ (fun σ H' z => ?_) (fun σ H' Q1 Q2 m c => ?_)
    · obtain ⟨lot, found, rfl, kp, s2, hl, hf, pm⟩ := z
      have okl : ∀ x ∈ lot, okS x := fun x hx => ok x (pm.mem_iff.mp (List.mem_append_right _ hx))
      refine ⟨_, rfl, (by show 0 ≤ sizeLine; decide), fun t nt => ?_⟩
      generalize gt : upd _ t _ = H3
      obtain ⟨kt, et, _⟩ := laid gt nt
      refine ⟨.list (lot.map .str), .list [], .lst (SqL.of (kt _ _ hl)) (dp_strs lot), .lst (SqL.of et) .nil, ?_, by decide +kernel, ?_⟩
      · unfold SeqAt.shaped
        rw [Bool.and_eq_true]
        refine ⟨by simp only [PyData.canLay0]; exact lay_str okl, decide_eq_true ?_⟩
        simp only [PyData.depth, depth_str]
        omega
      refine ⟨_, rfl, ?_⟩
      have s3 := s2.same kt
      have kp3 : Kp p H H3 := kp.trans (Same.kp kt)
      have hl3 := kt _ _ hl
      have hf3 := kt _ _ hf
      cases lot with
      | nil =>
        have e : (!PyData.eqv (.list (([] : List Str).map .str)) (.list [])) = false := by decide +kernel
        rw [e]
        refine ⟨_, rfl, ?_⟩
        rw [List.append_nil] at pm
        exact q _ _ found kp3 s3 hf3 pm n2'
      | cons x0 rest =>
        have e : (!PyData.eqv (.list ((x0 :: rest).map .str)) (.list [])) = true := by simp [PyData.eqv, PyData.eqvAll]
        rw [e]
        have ll : (x0 :: rest).length ≤ xs.length := by rw [← pm.length_eq, List.length_append]; omega
        have ll2 : found.length ≤ xs.length := by rw [← pm.length_eq, List.length_append]; omega
        refine ⟨_, rfl, .inl ⟨rfl, _, SqL.of hf3⟩, ?_⟩
        refine ⟨_, rfl, .inl ⟨rfl, _, SqL.of hl3⟩, ?_⟩
        refine ⟨_, rfl, _, rfl, _, _, rfl, .inl ⟨_, SqL.of hl3, rfl⟩, ?_⟩
        have lm : ((x0 :: rest).map V.str).length = rest.length + 1 := by simp
        refine ⟨p, _, rfl, s3, by rw [lm]; omega, by rw [lm]; simp only [List.length_cons] at ll; omega, fun r o r0 r1 ho => ?_⟩
        rw [lm] at r1
        have rn : r.toNat < (x0 :: rest).length := by simp only [List.length_cons]; omega
        have er : (x0 :: rest)[r.toNat]? = some ((x0 :: rest)[r.toNat]) := List.getElem?_eq_getElem rn
        have s4 : SrcAt (upd H3 p o) p := SrcAt.put ho
        have hl4 : (upd H3 p o) l = some (.lst ((x0 :: rest).map V.str)) := by rw [upd_ne lp]; exact hl3
        have hf4 : (upd H3 p o) f = some (.lst (found.map V.str)) := by rw [upd_ne fp]; exact hf3
        have kp4 : Kp p H (upd H3 p o) := kp3.trans Kp.put
        generalize upd H3 p o = H4 at s4 hl4 hf4 kp4 ⊢
        refine ⟨l, _, r, r.toNat, .str ((x0 :: rest)[r.toNat]), rfl, rfl, hl4, by omega, by simp only [List.length_cons] at ll; omega, ?_, by rw [List.getElem?_map, er]; rfl, ?_⟩
        · rw [lm]
          exact seqIx r0 (by simp only [List.length_cons] at rn; omega)
        have hf5 : (upd H4 l (.lst (((x0 :: rest).map V.str).eraseIdx r.toNat))) f = some (.lst (found.map V.str)) := by rw [upd_ne (Ne.symm lf)]; exact hf4
        refine ⟨f, _, _, rfl, rfl, hf5, by rw [List.length_map]; exact Nat.lt_of_lt_of_le (by omega : found.length < 1000) (by decide), ?_⟩
        have em : ((x0 :: rest).map V.str).eraseIdx r.toNat = ((x0 :: rest).eraseIdx r.toNat).map V.str := erase_map _ _
        have h4n : H l = none := n1
        refine ⟨⟨(x0 :: rest).eraseIdx r.toNat, found ++ [(x0 :: rest)[r.toNat]], rfl, fun b ob nb eb => ?_, ?_, ?_, ?_, ?_⟩, ?_⟩
        · have b1 : b ≠ f := ne_of_none eb n2'
          have b2 : b ≠ l := ne_of_none eb h4n
          rw [upd_ne b1, upd_ne b2]
          exact kp4 _ _ nb eb
        · obtain ⟨u, v, eu, hu⟩ := s4
          exact ⟨u, v, by rw [upd_ne (Ne.symm fp), upd_ne (Ne.symm lp)]; exact eu, hu⟩
        · rw [upd_ne lf, upd_same, em]
        · rw [upd_same, List.map_append]
          rfl
        · rw [List.append_assoc]
          refine List.Perm.trans (List.Perm.append_left found ?_) pm
          exact (perm_erase er).symm
        · show (match (upd _ f _) l with | some (.lst ys) => ys.length | _ => 0) < (match H' l with | some (.lst ys) => ys.length | _ => 0)
          rw [upd_ne lf, upd_same, hl, em]
          simp only [List.length_map, List.length_eraseIdx]
          rw [if_pos rn]
          simp only [List.length_cons]
          omega
    · obtain ⟨v, hv, sz, f⟩ := c
      exact ⟨v, hv, sz, fun l hl => by
        obtain ⟨d, e, h1, h2, h3, h4, k, hk, q⟩ := f l hl
        exact ⟨d, e, h1, h2, h3, h4, k, hk, m _ _ q⟩⟩

end
end K20

namespace K20
open PySem PySem.Spec PyProof.Rows L2 Gx
section
variable {P : Program} {w : World} {K : PySem.W.Frag} {mg : Str → Option Value} {base : Heap}

def nine : List Str := ["a", "b", "c", "hat", "coat", "things", "top", "place", "abcdefgh"]
def nmB (x : Str) : Bool := decide (1 ≤ x.length) && (decide (x.length ≤ 8) && x.cps.toList.all fun c => decide (97 ≤ c) && decide (c ≤ 122))
theorem nmB_ok {x : Str} (h : nmB x = true) : NM x := by
  unfold nmB at h
  simp only [Bool.and_eq_true, decide_eq_true_eq, List.all_eq_true] at h
  exact ⟨h.1, h.2.1, fun c hc => h.2.2 c hc⟩
theorem nine_nm : ∀ x ∈ nine, NM x := by
  have h : nine.all nmB = true := by decide +kernel
  exact fun x hx => nmB_ok (List.all_eq_true.mp h x hx)
theorem nine_ok : ∀ x ∈ nine, okS x := fun x hx => (nine_nm x hx).ok
theorem cut_take {xs : List V} {k : Int} (h : 0 ≤ k) : cutV xs none (some k) = xs.take k.toNat := by
  unfold cutV
  have e : HT.sIx xs.length xs.length (some k) = min k.toNat xs.length := by
    have := HT.sIx_nat xs.length xs.length k.toNat
    rwa [Int.toNat_of_nonneg h] at this
  rw [e, HT.sIx_none, List.drop_zero, Nat.sub_zero]
  rcases Nat.le_total k.toNat xs.length with l | l
  · rw [Nat.min_eq_left l]
  · rw [Nat.min_eq_right l, List.take_length, List.take_of_length_le l]
theorem ixn {r : Int} {n : Nat} (h0 : 0 ≤ r) (h1 : r < n) : ixN n r = some r.toNat := by
  unfold ixN
  simp [h0, h1]
theorem nodup_set {α : Type} : ∀ {xs : List α} (i : Nat) {x : α}, xs.Nodup → x ∉ xs → (xs.set i x).Nodup
  | [], i, x, _, _ => by simp
  | a :: xs, 0, x, nd, h => by
    simp only [List.set_cons_zero, List.nodup_cons]
    exact ⟨fun z => h (List.mem_cons_of_mem _ z), (List.nodup_cons.mp nd).2⟩
  | a :: xs, i + 1, x, nd, h => by
    simp only [List.set_cons_succ, List.nodup_cons]
    refine ⟨fun z => ?_, nodup_set i (List.nodup_cons.mp nd).2 (fun z => h (List.mem_cons_of_mem _ z))⟩
    rcases List.mem_or_eq_of_mem_set z with z | z
    · exact (List.nodup_cons.mp nd).1 z
    · exact h (z ▸ List.mem_cons_self)
theorem SqL.kne {K : PySem.W.Frag} {H H' : Hp} {p a : Addr} {xs : List V} (h : SqL K H a xs) (k : Kp p H H') (n : a ≠ p) : SqL K H' a xs := by
  rcases h with (h | ⟨o, h⟩) | h
  · exact .inl (.inl (k _ _ n h))
  · exact .inl (.inr ⟨o, k _ _ n h⟩)
  · exact .inr h
theorem len_snoc (z : Str) (d : Nat) : (z ++ (⟨#[d]⟩ : Str)).length = z.length + 1 := by
  show (z.cps ++ #[d]).size = z.cps.size + 1
  simp
theorem mem_snoc {z : Str} {d e : Nat} (h : e ∈ (z ++ (⟨#[d]⟩ : Str)).cps.toList) : e ∈ z.cps.toList ∨ e = d := by
  have h2 : e ∈ (z.cps ++ #[d]).toList := h
  simpa using h2
theorem abc (e : Nat) (h : e ∈ (Str.ofString "abcdefghijklmnopqrstuvwxyz").cps.toList) : 97 ≤ e ∧ e ≤ 122 := by
  have all : (Str.ofString "abcdefghijklmnopqrstuvwxyz").cps.toList.all (fun c => decide (97 ≤ c) && decide (c ≤ 122)) = true := by decide +kernel
  have := List.all_eq_true.mp all e h
  simpa using this
theorem nine_nd : nine.Nodup := by decide +kernel
theorem ca_law_word (F : Facts K mg) : Ca P w K mg base CX0 3 "_law_word" (spWord) := by
  obtain ⟨fd, D⟩ := fun_law_word F
  refine ⟨_, fd, ["source"], D.ok sc_law_word (fun vs H Q E h => ?_) (fun cdv A outer s H vs Q E hr h => ?_), D.bindsN fun _ _ _ _ _ _ us hl => match us, hl with | [_], _ => rfl, g__law_word F, D.kp⟩
  · obtain ⟨_, rfl, _⟩ := h
    rfl
  · have hu := hu_of hr
    skip
    refine ⟨_, PSs.nox (pss_cons (ps_set (i := 1) sc_law_word.nd rfl (Or.inl rfl) pe_str)
    (pss_cons (ps_for PassesOwn.never rfl (pi_range1 rfl (z_range F) (pa_cons (pe_op op_add pe_int (pe_ca (ca_law_draw F) (hr.mono (by decide)) rfl pass0 (pa_cons (pv 0) (pa_cons pe_int pa_nil)))) pa_nil)) (pg_name (i := 2) sc_law_word.nd rfl (Or.inl rfl))
      (pss_one (ps_set (i := 1) sc_law_word.nd rfl (Or.inl rfl) (pe_op op_add_str (pv 1) (pe_ca (ca_law_pick F) (hr.mono (by decide)) rfl pass0 (pa_cons (pv 0) (pa_cons pe_str pa_nil)))))))
    (pss_one (ps_ret (pv 1))))), ?_⟩
    obtain ⟨p, rfl, hs, q⟩ := h
    refine ⟨_, rfl, p, 8, rfl, hs, by decide, by decide, fun r o r0 r1 ho => ?_⟩
    refine ⟨_, _, rfl, rfl, ?_⟩
    have rn : (1 + r).toNat ≤ 8 := by omega
    refine ⟨1 + r, rfl, by omega, by omega, for_range (n := (1 + r).toNat) (fun i σ H' => ∃ (z : Str) (c : Option V), σ = [some (.ref p), some (.str z), c] ∧ Kp p H H' ∧ SrcAt H' p ∧ z.length = i ∧ ∀ c ∈ z.cps.toList, 97 ≤ c ∧ c ≤ 122) ⟨"", none, rfl, Kp.put, SrcAt.put ho, rfl, fun c h => by cases h⟩ (fun i σ H' hi z => ?_) (fun σ H' z => ?_)⟩
    · obtain ⟨z, c, rfl, kp, s2, hl, hc⟩ := z
      refine ⟨_, rfl, _, rfl, p, .str "abcdefghijklmnopqrstuvwxyz", rfl, s2, .inr ⟨_, rfl, by decide +kernel, by decide +kernel, fun d o2 hd ho2 => ?_⟩⟩
      refine ⟨_, _, rfl, rfl, ?_, ?_⟩
      · show z.length + 1 ≤ sizeLine
        rw [hl, sizeLine_eq]
        omega
      refine ⟨_, _, rfl, kp.trans Kp.put, SrcAt.put ho2, ?_, ?_⟩
      · show (z ++ (⟨#[d]⟩ : Str)).length = i + 1
        rw [← hl]
        exact len_snoc z d
      · intro e he
        rcases mem_snoc he with h | h
        · exact hc e h
        · subst h
          exact abc e hd
    · obtain ⟨z, c, rfl, kp, s2, hl, hc⟩ := z
      exact ⟨_, rfl, q _ z kp s2 ⟨by omega, by omega, hc⟩⟩

theorem ca_law_names (F : Facts K mg) : Ca P w K mg base CX0 4 "_law_names" (spNames K) := by
  obtain ⟨fd, D⟩ := fun_law_names F
  refine ⟨_, fd, ["source", "many"], D.ok sc_law_names (fun vs H Q E h => ?_) (fun cdv A outer s H vs Q E hr h => ?_), D.bindsN fun _ _ _ _ _ _ us hl => match us, hl with | [_, _], _ => rfl, g__law_names F, D.kp⟩
  · obtain ⟨_, _, rfl, _⟩ := h
    rfl
  · have hu := hu_of hr
    skip
    refine ⟨_, PSs.nox (pss_cons (ps_set (i := 2) sc_law_names.nd rfl (Or.inl rfl) (pe_ca (ca_law_mixed F) (hr.mono (by decide)) rfl pass0 (pa_cons (pv 0) (pa_cons (pe_lst (pa_cons pe_str (pa_cons pe_str (pa_cons pe_str (pa_cons pe_str (pa_cons pe_str (pa_cons pe_str (pa_cons pe_str (pa_cons pe_str (pa_cons pe_str pa_nil)))))))))) pa_nil))))
    (pss_cons (ps_set (i := 3) sc_law_names.nd rfl (Or.inl rfl) (pe_ca (ca_law_word F) (hr.mono (by decide)) rfl pass0 (pa_cons (pv 0) pa_nil)))
    (pss_cons (ps_if (pt_cmpR (op_notIn_seqK (K := K) rfl) (pv 3) (pv 2) (by rfl)) (pss_one (ps_asg (pv 3) (pg_sub (pv 2) (pe_ca (ca_law_draw F) (hr.mono (by decide)) rfl pass0 (pa_cons (pv 0) (pa_cons (pv 1) pa_nil))) set_list))) pss_nil)
    (pss_one (ps_ret (pe_slice sl_list (pv 2) po_none (po_some (pv 1)))))))), ?_⟩
    obtain ⟨p, many, rfl, hs, m1, m5, q⟩ := h
    refine ⟨_, rfl, (by show 9 ≤ sizeLine; decide), fun a na => ?_⟩
    generalize g1 : upd _ a _ = H1
    obtain ⟨k1, e1, _⟩ := laid g1 na
    refine ⟨p, a, nine, rfl, hs.same k1, hs.old na, .inl (SqL.of e1), by decide, nine_ok, fun H2 l ys k2 s2 e2 pm n2 => ?_⟩
    refine ⟨_, rfl, p, rfl, s2, fun H3 x k3 s3 nx => ?_⟩
    have lp : l ≠ p := (hs.same k1).old n2
    have kpA : Kp p H H3 := (Same.kp k1).trans (k2.trans k3)
    have e3 := k3 _ _ lp e2
    have yl : ys.length = 9 := pm.length_eq
    have yn : ys.Nodup := pm.nodup_iff.mpr nine_nd
    have ym : ∀ y ∈ ys, NM y := fun y hy => nine_nm y (pm.mem_iff.mp hy)
    refine ⟨_, rfl, _, rfl, l, _, rfl, .inl (SqL.of e3), rfl, flat_texts ys, ?_⟩
    rw [show (if true = true then !inV (.str x) (ys.map V.str) else inV (.str x) (ys.map V.str)) = !decide (x ∈ ys) from by rw [in_texts]; rfl]
    refine ⟨_, rfl, ?_⟩
    by_cases hx : x ∈ ys
    · rw [decide_eq_true hx]
      have KP := kpA
      have SR := s3
      have HL := e3
      have ZL := yl
      have ZN := yn
      have ZM := ym
      refine ⟨_, rfl, _, rfl, many, rfl, l, _, rfl, SqL.of HL, fun t nt => ?_⟩
      rw [cut_take (by omega : 0 ≤ many), ← List.map_take]
      have nt0 : H t = none := Kp.none KP hs nt SR
      exact q _ t _ (KP.trans (Same.kp (Same.new nt))) (SR.same (Same.new nt)) upd_same (by rw [List.length_take, ZL]; omega) (List.Sublist.nodup (List.take_sublist _ _) ZN) (fun y hy => ZM y (List.mem_of_mem_take hy)) nt0
    · rw [decide_eq_false hx]
      refine ⟨_, rfl, _, rfl, _, rfl, _, rfl, p, many, rfl, s3, by omega, by omega, fun r o r0 r1 ho => ?_⟩
      have rl : r.toNat < ys.length := by omega
      have e4 : (upd H3 p o) l = some (.lst (ys.map V.str)) := by rw [upd_ne lp]; exact e3
      refine ⟨l, _, r, r.toNat, rfl, rfl, e4, ixn r0 (by rw [List.length_map]; omega), ?_⟩
      rw [← List.map_set]
      have KP : Kp p H (upd (upd H3 p o) l (.lst ((ys.set r.toNat x).map V.str))) := fun b ob nb eb => by
        have b1 : b ≠ l := ne_of_none (k1 _ _ eb) n2
        rw [upd_ne b1, upd_ne nb]
        exact kpA _ _ nb eb
      have SR : SrcAt (upd (upd H3 p o) l (.lst ((ys.set r.toNat x).map V.str))) p := by
        obtain ⟨u, v, eu, hu⟩ := SrcAt.put (H := H3) (p := p) ho
        exact ⟨u, v, by rw [upd_ne (Ne.symm lp)]; exact eu, hu⟩
      have HL : (upd (upd H3 p o) l (.lst ((ys.set r.toNat x).map V.str))) l = some (.lst ((ys.set r.toNat x).map V.str)) := upd_same
      have ZL : (ys.set r.toNat x).length = 9 := by rw [List.length_set]; exact yl
      have ZN := nodup_set r.toNat yn hx
      have ZM : ∀ y ∈ ys.set r.toNat x, NM y := fun y hy => (List.mem_or_eq_of_mem_set hy).elim (ym y) (fun e => e ▸ nx)
      generalize upd (upd H3 p o) l (.lst ((ys.set r.toNat x).map V.str)) = H5 at KP SR HL ⊢
      refine ⟨_, rfl, _, rfl, many, rfl, l, _, rfl, SqL.of HL, fun t nt => ?_⟩
      rw [cut_take (by omega : 0 ≤ many), ← List.map_take]
      have nt0 : H t = none := Kp.none KP hs nt SR
      exact q _ t _ (KP.trans (Same.kp (Same.new nt))) (SR.same (Same.new nt)) upd_same (by rw [List.length_take, ZL]; omega) (List.Sublist.nodup (List.take_sublist _ _) ZN) (fun y hy => ZM y (List.mem_of_mem_take hy)) nt0

theorem ca_law_some (F : Facts K mg) : Ca P w K mg base CX0 3 "_law_some" (spSome K) := by
  obtain ⟨fd, D⟩ := fun_law_some F
  refine ⟨_, fd, ["source", "names", "least"], D.ok sc_law_some (fun vs H Q E h => ?_) (fun cdv A outer s H vs Q E hr h => ?_), D.bindsN fun _ _ _ _ _ _ us hl => match us, hl with | [_, _, _], _ => rfl, g__law_some F, D.kp⟩
  · obtain ⟨_, _, _, _, rfl, _⟩ := h
    rfl
  · have hu := hu_of hr
    skip
    refine ⟨_, PSs.nox (pss_one (ps_ret (pe_callTy (call_tuple_ofK (K := K) rfl) (by rfl) (z_tuple F) (by decide +kernel) (pa_cons (pe_slice sl_list (pe_ca (ca_law_mixed F) (hr.mono (by decide)) rfl pass0 (pa_cons (pv 0) (pa_cons (pv 1) pa_nil))) po_none (po_some (pe_op op_add (pv 2) (pe_ca (ca_law_draw F) (hr.mono (by decide)) rfl pass0 (pa_cons (pv 0) (pa_cons (pe_op op_sub (pe_op op_add (pe_callB call_len (by rfl) (z_len F) boot_len (pa_cons (pv 1) pa_nil)) pe_int) (pv 2)) pa_nil)))))) pa_nil)))), ?_⟩
    obtain ⟨p, a, xs, least, rfl, hs, nap, hx, nd, ok, l0, l1, l5, q⟩ := h
    refine ⟨_, rfl, _, rfl, p, a, xs, rfl, hs, nap, hx, by omega, ok, fun H2 l ys k2 s2 e2 pm n2 => ?_⟩
    have yl : ys.length = xs.length := pm.length_eq
    have lp : l ≠ p := hs.old n2
    have ln : (∃ zs, SqL K H2 a zs ∧ xs.length = zs.length) ∨ ∃ zs, SqT K H2 a zs ∧ xs.length = zs.length := hx.elim (fun h => .inl ⟨_, SqL.kne h k2 nap, by simp⟩) (fun h => .inr ⟨_, SqT.src h k2 hs, by simp⟩)
    refine ⟨_, rfl, _, rfl, _, rfl, _, xs.length, rfl, ln, _, _, rfl, rfl, _, rfl, _, _, rfl, rfl, p, _, rfl, s2, by omega, by omega, fun r o r0 r1 ho => ?_⟩
    refine ⟨_, _, rfl, rfl, _, rfl, l, _, rfl, SqL.of (by rw [upd_ne lp]; exact e2), fun t nt => ?_⟩
    rw [cut_take (by omega : 0 ≤ least + r), ← List.map_take]
    generalize g3 : upd _ t _ = H3
    obtain ⟨k3, e3, _⟩ := laid g3 nt
    refine ⟨t, _, rfl, .inl ⟨SqL.of e3, fun u nu => ?_⟩⟩
    generalize g4 : upd _ u _ = H4
    obtain ⟨k4, e4, _⟩ := laid g4 nu
    refine q _ u _ ((k2.trans Kp.put).trans (Same.kp (k3.trans k4))) (((SrcAt.put ho).same k3).same k4) (.inl (.inl e4)) (List.Sublist.nodup (List.take_sublist _ _) (pm.nodup_iff.mpr nd)) (fun y hy => pm.mem_iff.mp (List.mem_of_mem_take hy)) ?_
    rw [List.length_take]
    omega

end
end K20

namespace K20
open PySem PySem.Spec PyProof.Rows L2 Gx
section
variable {P : Program} {w : World} {K : PySem.W.Frag} {mg : Str → Option Value} {base : Heap}

theorem SqT.lst {K : PySem.W.Frag} {m a : Addr} {H H' : Hp} {xs ys : List V} (h : SqT K H a xs) (k : Kp m H H') (e : H m = some (.lst ys)) : SqT K H' a xs := by
  rcases h with h | h
  · have ne : a ≠ m := fun z => by
      subst z
      rcases h with h | ⟨o, h⟩ <;> rw [e] at h <;> cases h
    rcases h with h | ⟨o, h⟩
    · exact .inl (.inl (k _ _ ne h))
    · exact .inl (.inr ⟨o, k _ _ ne h⟩)
  · exact .inr h
theorem EAt.lst {K : PySem.W.Frag} {m : Addr} {H H' : Hp} {ys : List V} {v : V} {e : Ent} (h : EAt K H v e) (k : Kp m H H') (q : H m = some (.lst ys)) : EAt K H' v e := by
  obtain ⟨a, w, l, rfl, h1, h2, h3⟩ := h
  exact ⟨a, w, l, rfl, SqT.lst h1 k q, SqT.lst h2 k q, SqT.lst h3 k q⟩
theorem ca_law_base (F : Facts K mg) : Ca P w K mg base CX0 5 "_law_base" (spBase K) := by
  obtain ⟨fd, D⟩ := fun_law_base F
  refine ⟨_, fd, ["source", "most"], D.ok sc_law_base (fun vs H Q E h => ?_) (fun cdv A outer s H vs Q E hr h => ?_), D.bindsN fun _ _ _ _ _ _ us hl => match us, hl with | [_, _], _ => rfl, g__law_base F, D.kp⟩
  · obtain ⟨_, _, rfl, _⟩ := h
    rfl
  · have hu := hu_of hr
    skip
    refine ⟨_, PSs.nox (pss_cons (ps_set (i := 2) sc_law_base.nd rfl (Or.inl rfl) (pe_callTy (call_tuple_ofK (K := K) rfl) (by rfl) (z_tuple F) (by decide +kernel) (pa_cons (pe_ca (ca_law_names F) (hr.mono (by decide)) rfl pass0 (pa_cons (pv 0) (pa_cons (pe_op op_add pe_int (pe_ca (ca_law_draw F) (hr.mono (by decide)) rfl pass0 (pa_cons (pv 0) (pa_cons (pv 1) pa_nil)))) pa_nil))) pa_nil)))
    (pss_cons (ps_par (i := 4) (j := 5) (by rfl) sc_law_base.nd rfl rfl (by decide) rfl rfl (pa_cons (pe_ca (ca_law_names F) (hr.mono (by decide)) rfl pass0 (pa_cons (pv 0) (pa_cons (pe_op op_add pe_int (pe_ca (ca_law_draw F) (hr.mono (by decide)) rfl pass0 (pa_cons (pv 0) (pa_cons pe_int pa_nil)))) pa_nil))) (pa_cons (pe_lst pa_nil) pa_nil)) (by rfl))
    (pss_cons (ps_for PassesOwn.never rfl (pi_list (pv 4)) (pg_name (i := 3) sc_law_base.nd rfl (Or.inl rfl))
      (pss_cons (ps_set (i := 6) sc_law_base.nd rfl (Or.inl rfl) (pe_ca (ca_law_pick F) (hr.mono (by decide)) rfl pass0 (pa_cons (pv 0) (pa_cons (pe_lst (pa_cons pe_str (pa_cons pe_str (pa_cons pe_str pa_nil)))) pa_nil))))
    (pss_one (ps_expr (pe_bm PySem.F.plainAttrs_list PySem.F.slot_list_append PySem.F.type_list_append mt_append (pv 5) (pa_cons (pe_tup (pa_cons (pv 3) (pa_cons (pe_ca (ca_law_some F) (hr.mono (by decide)) rfl pass0 (pa_cons (pv 0) (pa_cons (pv 2) (pa_cons pe_int pa_nil)))) (pa_cons (pv 6) (pa_cons (pe_ca (ca_law_some F) (hr.mono (by decide)) rfl pass0 (pa_cons (pv 0) (pa_cons (pv 4) (pa_cons pe_int pa_nil)))) pa_nil))))) pa_nil))))))
    (pss_one (ps_ret (pe_tup (pa_cons (pv 2) (pa_cons (pe_callTy (call_tuple_ofK (K := K) rfl) (by rfl) (z_tuple F) (by decide +kernel) (pa_cons (pv 5) pa_nil)) pa_nil)))))))), ?_⟩
    obtain ⟨p, most, rfl, hs, m1, m5, q⟩ := h
    refine ⟨_, rfl, _, rfl, _, rfl, p, most, rfl, hs, by omega, by omega, fun r o r0 r1 ho => ?_⟩
    refine ⟨_, _, rfl, rfl, ?_⟩
    have s1 : SrcAt (upd H p o) p := SrcAt.put ho
    have kp1 : Kp p H (upd H p o) := Kp.put
    generalize upd H p o = H1 at s1 kp1 ⊢
    refine ⟨p, 1 + r, rfl, s1, by omega, by omega, fun H2 a things k2 s2 e2 tl tn tm n2 => ?_⟩
    refine ⟨a, _, rfl, .inl ⟨SqL.of e2, fun tt n3 => ?_⟩⟩
    generalize g3 : upd _ tt _ = H3
    obtain ⟨k3, e3, _⟩ := laid g3 n3
    have s3 := s2.same k3
    have ttp : tt ≠ p := s2.old n3
    refine ⟨_, rfl, _, rfl, p, 4, rfl, s3, by decide, by decide, fun r2 o2 r20 r21 ho2 => ?_⟩
    refine ⟨_, _, rfl, rfl, ?_⟩
    have s4 : SrcAt (upd H3 p o2) p := SrcAt.put ho2
    have T4 : SqT K (upd H3 p o2) tt (things.map V.str) := SqT.src (.inl (.inl e3)) Kp.put s3
    have kp4 : Kp p H (upd H3 p o2) := ((kp1.trans k2).trans (Same.kp k3)).trans Kp.put
    generalize upd H3 p o2 = H4 at s4 T4 kp4 ⊢
    refine ⟨p, 1 + r2, rfl, s4, by omega, by omega, fun H5 nl names k5 s5 e5 nln nn nmm n5 => ?_⟩
    refine ⟨(by show 0 ≤ sizeLine; decide), fun wl n6 => ?_⟩
    have T5 := SqT.src T4 k5 s4
    have nlp : nl ≠ p := s4.old n5
    have kp5 : Kp p H H5 := kp4.trans k5
    generalize g6 : upd _ wl _ = H6
    obtain ⟨k6, e6, _⟩ := laid g6 n6
    have wlp : wl ≠ p := s5.old n6
    have wlH : H wl = none := Kp.none kp5 hs n6 s5
    have wnl : nl ≠ wl := fun z => by rw [z, n6] at e5; cases e5
    refine ⟨_, _, rfl, ?_⟩
    have E6 := k6 _ _ e5
    have T6 := SqT.same T5 k6
    have s6 := s5.same k6
    have kp6 : Kp p H H6 := kp5.trans (Same.kp k6)
    have nl4 : names.length ≤ 4 := by omega
    have nl1 : 1 ≤ names.length := by omega
    refine ⟨_, rfl, nl, rfl, ⟨_, SqL.of E6⟩, for_list (K := K) (xs := names.map V.str) (fun i σ H' => ∃ (es : List V) (ws : List Ent) (c d : Option V), σ = [some (.ref p), some (.int most), some (.ref tt), c, some (.ref nl), some (.ref wl), d] ∧ Kp p H H' ∧ SrcAt H' p ∧ H' nl = some (.lst (names.map V.str)) ∧ SqT K H' tt (things.map V.str) ∧
      H' wl = some (.lst es) ∧ Paired (EAt K H') es ws ∧ ws.map Ent.name = names.take i ∧ ∀ e ∈ ws, WE things names e) ⟨[], [], none, none, rfl, kp6, s6, E6, T6, e6, .nil, rfl, fun e h => by cases h⟩ (fun i σ H' _ z => ?_) (fun i x σ H' hx z => ?_) (fun σ H' z => ?_)⟩
    · obtain ⟨es, ws, c, d, rfl, z1, z2, z3, z4, z5, z6, z7, z8⟩ := z
      exact SqL.of z3
    · obtain ⟨es, ws, c, d, rfl, z1, z2, z3, z4, z5, z6, z7, z8⟩ := z
      rw [List.getElem?_map] at hx
      obtain ⟨nm, hnm, rfl⟩ := Option.map_eq_some_iff.mp hx
      have hi : i < names.length := (List.getElem?_eq_some_iff.mp hnm).1
      refine ⟨_, rfl, (by show 3 ≤ sizeLine; decide), fun b1 nb1 => ?_⟩
      generalize gb : upd _ b1 _ = G1
      obtain ⟨j1, f1, _⟩ := laid gb nb1
      refine ⟨p, _, rfl, z2.same j1, .inl ⟨b1, _, rfl, SqL.of f1, by decide, by decide, z2.old nb1, fun bk o3 hbk ho3 => ?_⟩⟩
      have hbk2 : ∃ bs : Str, bk = .str bs ∧ (bs = "top" ∨ bs = "place") := by
        simp only [List.mem_cons, List.not_mem_nil, or_false] at hbk
        rcases hbk with h | h | h <;> exact ⟨_, h, by simp⟩
      obtain ⟨bs, rfl, hbs⟩ := hbk2
      have kA : Kp p H' (upd G1 p o3) := (Same.kp j1).trans Kp.put
      have sA : SrcAt (upd G1 p o3) p := SrcAt.put ho3
      generalize upd G1 p o3 = G2 at kA sA ⊢
      have wA : G2 wl = some (.lst es) := kA _ _ wlp z5
      have nA : G2 nl = some (.lst (names.map V.str)) := kA _ _ nlp z3
      have tA := SqT.src z4 kA z2
      refine ⟨_, rfl, .inl ⟨rfl, _, SqL.of wA⟩, ?_⟩
      refine ⟨_, rfl, _, rfl, _, rfl, p, tt, things, 0, rfl, sA, ttp, .inr tA, tn, fun x hx => (tm x hx).ok, by decide, by omega, by omega, fun G3 t1 y1 kB sB tB ndB sbB _ => ?_⟩
      have wB := kB _ _ wlp wA
      have nB := kB _ _ nlp nA
      refine ⟨_, rfl, _, rfl, _, rfl, p, nl, names, 1, rfl, sB, nlp, .inl (SqL.of nB), nn, fun x hx => (nmm x hx).ok, by decide, by omega, by omega, fun G4 t2 y2 kC sC tC ndC sbC lC => ?_⟩
      have wC := kC _ _ wlp wB
      have nC := kC _ _ nlp nB
      have tB2 := SqT.src tB kC sB
      refine ⟨(by show 4 ≤ sizeLine; decide), fun u nu => ?_⟩
      generalize gu : upd _ u _ = G5
      obtain ⟨j5, f5, _⟩ := laid gu nu
      have wD := j5 _ _ wC
      have kD : Kp p H' G5 := ((kA.trans kB).trans kC).trans (Same.kp j5)
      have le : es.length = i := by rw [Paired.length z6, ← List.length_map (f := Ent.name), z7, List.length_take]; omega
      refine ⟨wl, _, _, rfl, rfl, wD, Nat.lt_of_lt_of_le (by omega : es.length < 1000) (by decide), ?_⟩
      have kE : Kp wl G5 (upd G5 wl (.lst (es ++ [.ref u]))) := Kp.put
      refine ⟨es ++ [.ref u], ws ++ [⟨nm, y1, bs, y2⟩], some (.str nm), some (.str bs), rfl, fun b ob nb eb => ?_, ?_, ?_, ?_, upd_same, ?_, ?_, ?_⟩
      · have b2 : b ≠ wl := ne_of_none eb wlH
        rw [upd_ne b2]
        exact kD _ _ nb (z1 _ _ nb eb)
      · obtain ⟨x1, x2, x3, x4⟩ := sC.same j5
        exact ⟨x1, x2, by rw [upd_ne (Ne.symm wlp)]; exact x3, x4⟩
      · rw [upd_ne wnl]
        exact j5 _ _ nC
      · exact SqT.lst (SqT.src z4 kD z2) kE wD
      · refine Paired.snoc (Paired.imp2 (fun _ _ h => EAt.lst (h.src kD z2) kE wD) z6) ⟨u, t1, t2, rfl, .inl (.inl (kE _ _ (fun z => by rw [z, wD] at f5; cases f5) f5)), SqT.lst (SqT.same tB2 j5) kE wD, SqT.lst (SqT.same tC j5) kE wD⟩
      · rw [List.map_append, z7, List.take_succ, hnm]
        rfl
      · intro e he
        rcases List.mem_append.mp he with he | he
        · exact z8 e he
        · simp at he
          subst he
          exact ⟨sbB, ndB, sbC, ndC, fun z => by simp only at z; rw [z] at lC; simp at lC, hbs⟩
    · obtain ⟨es, ws, c, d, rfl, z1, z2, z3, z4, z5, z6, z7, z8⟩ := z
      rw [List.length_map, List.take_length] at z7
      refine ⟨_, rfl, _, rfl, wl, es, rfl, .inl ⟨SqL.of z5, fun u nu => ?_⟩⟩
      generalize gu : upd _ u _ = G1
      obtain ⟨j1, f1, _⟩ := laid gu nu
      refine ⟨(by show 2 ≤ sizeLine; decide), fun t nt => ?_⟩
      generalize gt : upd _ t _ = G2
      obtain ⟨j2, f2, _⟩ := laid gt nt
      have j := j1.trans j2
      have wl4 : ws.length = names.length := by rw [← z7, List.length_map]
      exact q _ t ⟨things, ws⟩ (z1.trans (Same.kp j)) (z2.same j) ⟨tt, u, es, .inl (.inl f2), SqT.same z4 j, .inl (.inl (j2 _ _ f1)), Paired.imp2 (fun _ _ h => h.same j) z6⟩
        ⟨by show 1 ≤ things.length; omega, by show things.length ≤ 5; omega, tm, tn, by show 1 ≤ ws.length; omega, by show ws.length ≤ 4; omega, by unfold Bs.names; rw [z7]; exact nmm, by unfold Bs.names; rw [z7]; exact nn, by unfold Bs.names; rw [z7]; exact z8⟩

end
end K20

namespace K20
open PySem PySem.Spec PyProof.Rows L2 Gx
section
variable {P : Program} {w : World} {K : PySem.W.Frag} {mg : Str → Option Value} {base : Heap}

theorem Paired.impM {α β : Type} {R S : α → β → Prop} : ∀ {xs : List α} {ys : List β}, (∀ a b, b ∈ ys → R a b → S a b) → Paired R xs ys → Paired S xs ys
  | _, _, _, .nil => .nil
  | _, _, f, .cons h t => .cons (f _ _ List.mem_cons_self h) (Paired.impM (fun a b hb => f a b (List.mem_cons_of_mem _ hb)) t)
theorem ca_law_made (F : Facts K mg) : Ca P w K mg base CX0 7 "_law_made" (spMade K) := by
  obtain ⟨fd, D⟩ := fun_law_made F
  refine ⟨_, fd, ["base"], D.ok sc_law_made (fun vs H Q E h => ?_) (fun cdv A outer s H vs Q E hr h => ?_), D.bindsN fun _ _ _ _ _ _ us hl => match us, hl with | [_], _ => rfl, g__law_made F, D.kp⟩
  · obtain ⟨_, _, rfl, _⟩ := h
    rfl
  · have hu := hu_of hr
    skip
    refine ⟨_, PSs.nox (pss_cons (ps_par (i := 3) (j := 4) (by rfl) sc_law_made.nd rfl rfl (by decide) rfl rfl (pa_cons (pe_callTy call_list_of (by rfl) (z_list F) (by decide +kernel) (pa_cons (pe_ix (ix_tupK (K := K) rfl) (pv 0) pe_int (fun _ _ => rfl)) pa_nil)) (pa_cons pe_dnewK pa_nil)) (by rfl))
    (pss_cons (ps_for PassesOwn.never rfl (pi_tup (pe_ix (ix_tupK (K := K) rfl) (pv 0) pe_int (fun _ _ => rfl))) (pg_tup rfl (pgs_cons (pg_name (i := 2) sc_law_made.nd rfl (Or.inl rfl)) (pgs_cons (pg_name (i := 5) sc_law_made.nd rfl (Or.inl rfl)) (pgs_cons (pg_name (i := 6) sc_law_made.nd rfl (Or.inl rfl)) (pgs_cons (pg_name (i := 7) sc_law_made.nd rfl (Or.inl rfl)) pgs_nil)))))
      (pss_one (ps_dput hu (pv 4) (pv 2) (pe_tup (pa_cons (pe_callTy call_list_of (by rfl) (z_list F) (by decide +kernel) (pa_cons (pv 5) pa_nil)) (pa_cons (pv 6) (pa_cons (pe_callTy call_list_of (by rfl) (z_list F) (by decide +kernel) (pa_cons (pv 7) pa_nil)) pa_nil)))) rfl)))
    (pss_cons (ps_set (i := 1) sc_law_made.nd rfl (Or.inl rfl) (pe_mk (mk_Menu F) (hr.mono (by decide)) rfl pass0 (pa_cons (pv 3) (pa_cons (pv 4) pa_nil))))
    (pss_cons (ps_for PassesOwn.never rfl (pi_list (pe_callTy (call_list_dK rfl) (by rfl) (z_list F) (by decide +kernel) (pa_cons (pv 4) pa_nil))) (pg_name (i := 2) sc_law_made.nd rfl (Or.inl rfl))
      (pss_cons (ps_expr (pe_bm PySem.F.plainAttrs_list PySem.F.slot_list_append PySem.F.type_list_append mt_append (pe_ix (ix_tupK (K := K) rfl) (pe_dget hu (pv 4) (pv 2) (fun _ _ => rfl)) pe_int (fun _ _ => rfl)) (pa_cons pe_str pa_nil)))
    (pss_one (ps_expr (pe_bm PySem.F.plainAttrs_list PySem.F.slot_list_append PySem.F.type_list_append mt_append (pe_ix (ix_tupK (K := K) rfl) (pe_dget hu (pv 4) (pv 2) (fun _ _ => rfl)) pe_int (fun _ _ => rfl)) (pa_cons pe_str pa_nil))))))
    (pss_cons (ps_expr (pe_bm0 PySem.F.plainAttrs_dict PySem.F.slot_dict_clear PySem.F.type_dict_clear mtd_clear (pv 4)))
    (pss_cons (ps_expr (pe_bm0 PySem.F.plainAttrs_list PySem.F.slot_list_clear PySem.F.type_list_clear mt_clear (pv 3)))
    (pss_one (ps_ret (pv 1))))))))), ?_⟩
    obtain ⟨t, b, rfl, hb, wf, q⟩ := h
    have hb0 := hb
    obtain ⟨th, wt, es, h1, h2, h3, h4⟩ := hb
    refine ⟨_, rfl, t, _, 0, _, rfl, rfl, h1, rfl, th, _, rfl, .inr h2, fun l nl => ?_⟩
    generalize g1 : upd _ l _ = H1
    obtain ⟨k1, e1, _⟩ := laid g1 nl
    intro d nd
    generalize g2 : upd _ d _ = H2
    obtain ⟨k2, e2, _⟩ := laid g2 nd
    have ld : l ≠ d := fun z => by rw [z, nd] at e1; cases e1
    have ndH : H d = none := none_old k1 nd
    have few := wf.w4
    refine ⟨_, _, rfl, ?_⟩
    refine ⟨_, rfl, t, _, 1, _, rfl, rfl, SqT.same h1 (k1.trans k2), rfl, wt, rfl, ⟨_, SqT.same h3 (k1.trans k2)⟩, for_tup (K := K) (xs := es) (fun i σ H' => ∃ (kvs : List (Key × V)) (c2 c5 c6 c7 : Option V), σ = [some (.ref t), none, c2, some (.ref l), some (.ref d), c5, c6, c7] ∧ Same H H' ∧ H' l = some (.lst (b.things.map V.str)) ∧ H' d = some (.dK kvs) ∧ Paired (XAt K H H') kvs (b.ws.take i))
      ⟨[], none, none, none, none, rfl, k1.trans k2, k2 _ _ e1, e2, by rw [List.take_zero]; exact .nil⟩ (fun i σ H' _ z => ?_) (fun i x σ H' hx z => ?_) (fun σ H' z => ?_)⟩
    · obtain ⟨kvs, c2, c5, c6, c7, rfl, z1, z2, z3, z4⟩ := z
      exact SqT.same h3 z1
    · obtain ⟨kvs, c2, c5, c6, c7, rfl, z1, z2, z3, z4⟩ := z
      obtain ⟨e, he, a, w1, l1, rfl, f1, f2, f3⟩ := Paired.at2 h4 hx
      have hi : i < b.ws.length := (List.getElem?_eq_some_iff.mp he).1
      refine ⟨a, _, rfl, SqT.same f1 z1, rfl, _, _, rfl, _, _, rfl, _, _, rfl, _, _, rfl, rfl, ?_⟩
      refine ⟨_, rfl, w1, _, rfl, .inr (SqT.same f2 z1), fun p1 n1 => ?_⟩
      generalize g3 : upd _ p1 _ = G1
      obtain ⟨j1, q1, _⟩ := laid g3 n1
      refine ⟨_, rfl, _, rfl, l1, _, rfl, .inr (SqT.same f3 (z1.trans j1)), fun p2 n2 => ?_⟩
      generalize g4 : upd _ p2 _ = G2
      obtain ⟨j2, q2, _⟩ := laid g4 n2
      refine ⟨(by show 3 ≤ sizeLine; decide), fun u nu => ?_⟩
      generalize g5 : upd _ u _ = G3
      obtain ⟨j3, q3, _⟩ := laid g5 nu
      have j := j1.trans (j2.trans j3)
      have d3 := j _ _ z3
      have lk : kvs.length = i := by rw [Paired.length z4, List.length_take]; omega
      have fresh : (Sum.inr e.name : Key) ∉ kvs.map (·.1) := by
        rw [Paired.map1 (fun _ _ q => q.1) z4]
        intro hm
        obtain ⟨nm, hn, h5⟩ := List.mem_map.mp hm
        cases h5
        rw [List.map_take] at hn
        obtain ⟨y, hy, ey⟩ := List.mem_iff_getElem.mp hn
        rw [List.length_take] at hy
        rw [List.getElem_take] at ey
        have e1 : (b.ws.map Ent.name)[y]? = some e.name := by rw [List.getElem?_eq_getElem (by rw [List.length_map]; omega), ey]
        have e2 : (b.ws.map Ent.name)[i]? = some e.name := by rw [List.getElem?_map, he]; rfl
        have nd2 := wf.wd
        unfold Bs.names at nd2
        have := nodup_inj nd2 e1 e2
        omega
      refine ⟨_, rfl, _, rfl, d, _, rfl, DPut.k (k := .inr e.name) d3 (by rw [lk]; exact Nat.lt_of_lt_of_le (by omega : i < 5) (by decide)), ?_⟩
      rw [putK_new fresh]
      refine ⟨_, _, _, _, _, rfl, Same.over (z1.trans j) ndH, ?_, upd_same, ?_⟩
      · rw [upd_ne ld]
        exact j _ _ z2
      · rw [List.take_succ, he]
        have dk : ∀ {a : Addr} {o : HO}, G3 a = some o → (∀ ks, o ≠ .dK ks) → (upd G3 d (.dK (kvs ++ [(Sum.inr e.name, .ref u)]))) a = some o := fun {a o} q n => by
          rw [upd_ne (fun z => by rw [z, d3] at q; cases q; exact n _ rfl)]
          exact q
        refine Paired.snoc (Paired.imp2 (fun _ _ h => XAt.dic (h.same j) Kp.put d3) z4) ⟨rfl, u, p1, p2, rfl, .inl (.inl (dk q3 (by intros; simp))), none_old z1 n1, none_old (z1.trans j1) n2, dk ((j2.trans j3) _ _ q1) (by intros; simp), dk (j3 _ _ q2) (by intros; simp)⟩
    · obtain ⟨kvs, c2, c5, c6, c7, rfl, z1, z2, z3, z4⟩ := z
      have el : es.length = b.ws.length := Paired.length h4
      rw [el, List.take_length] at z4
      refine ⟨_, rfl, _, rfl, fun m dx nm ndx ne => ?_⟩
      generalize gL : upd (upd H' dx (.own m)) m _ = HL
      have sl : Same H' HL := fun a o h => by rw [← gL, upd_ne (ne_of_none h nm), upd_ne (ne_of_none h ndx)]; exact h
      have a1 : HL m = some (.ins (He.ga K "Menu") dx []) := by rw [← gL]; exact upd_same
      have a2 : HL dx = some (.own m) := by rw [← gL, upd_ne ne]; exact upd_same
      refine ⟨m, dx, .ref l, d, b, kvs, rfl, a1, a2, sl _ _ z3, Paired.imp2 (fun _ _ h => (h.same sl).ent) z4, ⟨l, rfl, .inl (SqL.of (sl _ _ z2))⟩, wf, fun H7 kp isF => ⟨rfl, ?_⟩⟩
      have s7 : Same H' H7 := fun a o h => kp _ _ (ne_of_none h nm) (sl _ _ h)
      have d7 := s7 _ _ z3
      refine ⟨_, rfl, d, kvs, rfl, d7, fun q2 n2 => ?_⟩
      generalize g3 : upd _ q2 _ = H8
      obtain ⟨k8, e8, _⟩ := laid g3 n2
      have q2H : H q2 = none := none_old (z1.trans s7) n2
      have q2L : HL q2 = none := by
        rcases hq : HL q2 with _ | o
        · rfl
        · have nmq : q2 ≠ m := fun z => by
            obtain ⟨x1, x2, x3, x4, x5, x6, x7, x8, y1, _⟩ := isF
            rw [z, y1] at n2
            cases n2
          rw [kp _ _ nmq hq] at n2
          cases n2
      have five : ∀ e ∈ b.ws, e.wishes.length ≤ 5 ∧ e.later.length ≤ 5 := fun e he => by
        have h5 := wf.we e he
        have h6 := nodup_len h5.wd h5.w
        have h7 := nodup_len h5.ld h5.l
        have h8 := wf.t5
        unfold Bs.names at h7
        rw [List.length_map] at h7
        omega
      have L8 : Paired (LAt K (fun a => H a = none ∧ a ≠ q2) H8 5) kvs b.ws := Paired.impM (fun p e he h => LAt.same (XAt.l (h.same s7) n2 (five e he).1 (five e he).2) k8) z4
      refine ⟨q2, rfl, ⟨_, SqL.of e8⟩, for_list (K := K) (xs := kvs.map fun kv => kV kv.1) (fun i σ G => ∃ (c2 c5 c6 c7 : Option V) (ys : List V), σ = [some (.ref t), some (.ref m), c2, some (.ref l), some (.ref d), c5, c6, c7] ∧ Same H G ∧ IsMF K HL G m b ∧ G l = some (.lst ys) ∧ G d = some (.dK kvs) ∧ G q2 = some (.lst (kvs.map fun kv => kV kv.1)) ∧ Paired (LAt K (fun a => H a = none ∧ a ≠ q2) G (5 + 2 * i)) kvs b.ws)
        ⟨_, _, _, _, _, rfl, z1.trans (s7.trans k8), isF.same k8, (s7.trans k8) _ _ z2, k8 _ _ d7, e8, L8⟩ (fun i σ G _ z => ?_) (fun i x σ G hx z => ?_) (fun σ G z => ?_)⟩
      · obtain ⟨c2, c5, c6, c7, ys, rfl, y1, y2, y3, y4, y5, y6⟩ := z
        exact SqL.of y5
      · obtain ⟨c2, c5, c6, c7, ys, rfl, y1, y2, y3, y4, y5, y6⟩ := z
        rw [List.getElem?_map] at hx
        obtain ⟨pr, hpr, rfl⟩ := Option.map_eq_some_iff.mp hx
        obtain ⟨e, he, ek, tt, w, l2, et, st, fw, fl, ⟨yw, hw, lw⟩, yl, hl, ll⟩ := Paired.at2 y6 hpr
        have hi : i < kvs.length := (List.getElem?_eq_some_iff.mp hpr).1
        have lk : kvs.length = b.ws.length := Paired.length z4
        have ndk : (kvs.map (·.1)).Nodup := by
          rw [Paired.map1 (fun _ _ q => q.1) z4]
          exact nodup_inr wf.wd
        have gv : valV kvs pr.1 = some (.ref tt) := by
          rw [← et]
          exact valV_at (i := i) ndk hpr
        have step : ∀ {G : Hp} {q : Addr} {xs : List V} {N : Nat}, Same H G → IsMF K HL G m b → (∃ ys, G l = some (.lst ys)) → G d = some (.dK kvs) → G q2 = some (.lst (kvs.map fun kv => kV kv.1)) → Paired (LAt K (fun a => H a = none ∧ a ≠ q2) G N) kvs b.ws → H q = none → q ≠ q2 → G q = some (.lst xs) → xs.length ≤ N →
            Same H (upd G q (.lst (xs ++ [.str "late"]))) ∧ IsMF K HL (upd G q (.lst (xs ++ [.str "late"]))) m b ∧ (∃ ys, (upd G q (.lst (xs ++ [.str "late"]))) l = some (.lst ys)) ∧ (upd G q (.lst (xs ++ [.str "late"]))) d = some (.dK kvs) ∧ (upd G q (.lst (xs ++ [.str "late"]))) q2 = some (.lst (kvs.map fun kv => kV kv.1)) ∧
              Paired (LAt K (fun a => H a = none ∧ a ≠ q2) (upd G q (.lst (xs ++ [.str "late"]))) (N + 1)) kvs b.ws := fun {G q xs N} v1 v2 v3 v4 v5 v6 v7 v8 v9 v10 => by
          refine ⟨Same.over v1 v7, v2.lst Kp.put v9, ?_, ?_, ?_, Paired.imp2 (fun _ _ h => LAt.app h v9 v10) v6⟩
          · by_cases c : l = q
            · exact ⟨_, by rw [c]; exact upd_same⟩
            · obtain ⟨ys, hy⟩ := v3
              exact ⟨ys, by rw [upd_ne c]; exact hy⟩
          · rw [upd_ne (fun z => by rw [← z, v4] at v9; cases v9)]
            exact v4
          · rw [upd_ne (Ne.symm v8)]
            exact v5
        have small : (5 + 2 * i) + 1 < 1000 := by omega
        refine ⟨_, rfl, _, rfl, d, .ref tt, rfl, by rw [← gv]; exact DGet.k y4, tt, _, 0, .ref w, rfl, rfl, st, rfl, .inl ⟨rfl, _, SqL.of hw⟩, w, _, _, rfl, rfl, hw, Nat.lt_of_lt_of_le (by omega : yw.length < 1000) (by decide), ?_⟩
        obtain ⟨x1, x2, x3, x4, x5, x6⟩ := step y1 y2 ⟨ys, y3⟩ y4 y5 y6 fw.1 fw.2 hw lw
        generalize upd G w (.lst (yw ++ [.str "late"])) = G1 at x1 x2 x3 x4 x5 x6 ⊢
        obtain ⟨e', he', ek', tt', w', l2', et', st', fw', fl', _, yl', hl', ll'⟩ := Paired.at2 x6 hpr
        rw [et] at et'
        cases et'
        refine ⟨_, rfl, _, rfl, d, .ref tt, rfl, by rw [← gv]; exact DGet.k x4, tt, _, 2, .ref l2', rfl, rfl, st', rfl, .inl ⟨rfl, _, SqL.of hl'⟩, l2', _, _, rfl, rfl, hl', Nat.lt_of_lt_of_le (by omega : yl'.length < 1000) (by decide), ?_⟩
        obtain ⟨u1, u2, ⟨u3, u3'⟩, u4, u5, u6⟩ := step x1 x2 x3 x4 x5 x6 fl'.1 fl'.2 hl' ll'
        exact ⟨_, _, _, _, u3, rfl, u1, u2, u3', u4, u5, Paired.imp2 (fun _ _ h => LAt.mono h (by omega)) u6⟩
      · obtain ⟨c2, c5, c6, c7, ys, rfl, y1, y2, y3, y4, y5, y6⟩ := z
        refine ⟨_, rfl, .inr (.inr (.inl ⟨rfl, .inl ⟨_, y4⟩⟩)), d, kvs, rfl, rfl, y4, ?_⟩
        have i1 := y2.dic (Kp.put (o := .dK [])) y4 (sl _ _ z3)
        have o1 := Same.over y1 ndH (o := .dK [])
        have l1 : (upd G d (.dK [])) l = some (.lst ys) := by rw [upd_ne ld]; exact y3
        generalize upd G d (.dK []) = G1 at i1 o1 l1 ⊢
        refine ⟨_, rfl, .inl ⟨rfl, _, SqL.of l1⟩, l, ys, rfl, rfl, l1, ?_⟩
        exact ⟨_, rfl, q _ m (Same.over o1 nl) (i1.lst Kp.put l1).is (none_old z1 nm)⟩

end
end K20

/-! typed judgements: what a piece of syntax gives, over plain values; the heap is dealt with once -/
namespace Tx
open PySem PySem.Spec PyProof.Rows L2 Gx

abbrev WS := Addr → Prop
/-- what can be owned: a list, or an object of one's own kind -/
def XoO (o : HO) : Prop := (∃ φ, o = .ext φ) ∨ ∃ ob φ, o = .frz ob (.ext φ)
def OwO (o : Option HO) : Prop := (∃ us : List V, o = some (.lst us)) ∨ ∃ x, o = some x ∧ XoO x
theorem OwO.some {o : Option HO} (h : OwO o) : ∃ x, o = Option.some x := by
  rcases h with ⟨us, h⟩ | ⟨x, h, _⟩
  · exact ⟨_, h⟩
  · exact ⟨_, h⟩
theorem OwO.st {o o' : Option HO} (h : OwO o) (k : ∀ x, o = Option.some x → o' = Option.some x) : OwO o' := by
  rcases h with ⟨us, h⟩ | ⟨x, h, y⟩
  · exact .inl ⟨_, k _ h⟩
  · exact .inr ⟨_, k _ h, y⟩
theorem OwO.lst {o : Option HO} {us : List V} (h : o = Option.some (.lst us)) : OwO o := .inl ⟨_, h⟩
/-- what is not owned stays, and stays not owned -/
def Ge (W : WS) (H : Hp) (W' : WS) (H' : Hp) : Prop := ∀ a o, ¬ W a → H a = some o → ¬ W' a ∧ H' a = some o
theorem Ge.refl {W : WS} {H : Hp} : Ge W H W H := fun _ _ n e => ⟨n, e⟩
theorem Ge.trans {W W' W'' : WS} {H H' H'' : Hp} (h : Ge W H W' H') (k : Ge W' H' W'' H'') : Ge W H W'' H'' := fun a o n e => let ⟨n', e'⟩ := h a o n e; k a o n' e'
theorem Ge.same {W : WS} {H H' : Hp} (k : Same H H') : Ge W H W H' := fun a o n e => ⟨n, k a o e⟩
theorem Ge.less {W W' : WS} {H : Hp} (k : ∀ a, W' a → W a) : Ge W H W' H := fun a o n e => ⟨fun z => n (k a z), e⟩
/-- how a value stands for a datum -/
structure Rp (α : Type) where
  r : PySem.W.Frag → WS → Hp → V → α → Prop
  mono : ∀ {K : PySem.W.Frag} {W W' : WS} {H H' : Hp} {v : V} {x : α}, Ge W H W' H' → r K W H v x → r K W' H' v x
theorem Rp.pmono {α : Type} (S : Rp α) {K : PySem.W.Frag} {W W' : WS} {H H' : Hp} (g : Ge W H W' H') {vs : List V} {xs : List α} (h : Paired (S.r K W H) vs xs) : Paired (S.r K W' H') vs xs := Paired.imp2 (fun _ _ => S.mono g) h
/-- no part of it lies in the heap -/
def Flat {α : Type} (S : Rp α) : Prop := ∀ {K : PySem.W.Frag} {W W' : WS} {H H' : Hp} {v : V} {x : α}, S.r K W H v x → S.r K W' H' v x
theorem Flat.p {α : Type} {S : Rp α} (f : Flat S) {K : PySem.W.Frag} {W W' : WS} {H H' : Hp} {vs : List V} {xs : List α} (h : Paired (S.r K W H) vs xs) : Paired (S.r K W' H') vs xs := Paired.imp2 (fun _ _ z => f z) h
def intR : Rp Int := ⟨fun _ _ _ v x => v = .int x, fun _ h => h⟩
def strR : Rp Str := ⟨fun _ _ _ v x => v = .str x, fun _ h => h⟩
def boolR : Rp Bool := ⟨fun _ _ _ v x => v = .bl x, fun _ h => h⟩
def nonR : Rp Unit := ⟨fun _ _ _ v _ => v = .non, fun _ h => h⟩
/-- the very value -/
def vR : Rp V := ⟨fun _ _ _ v x => v = x, fun _ h => h⟩
theorem intR.flat : Flat intR := fun h => h
theorem strR.flat : Flat strR := fun h => h
theorem boolR.flat : Flat boolR := fun h => h
theorem nonR.flat : Flat nonR := fun h => h
theorem vR.flat : Flat vR := fun h => h
/-- a tuple that is there -/
def TW (K : PySem.W.Frag) (W : WS) (H : Hp) (a : Addr) (xs : List V) : Prop := (¬ W a ∧ Rd H a (.tup xs)) ∨ ∀ G, SqT K G a xs
theorem TW.sq {K : PySem.W.Frag} {W : WS} {H : Hp} {a : Addr} {xs : List V} (h : TW K W H a xs) : SqT K H a xs := h.elim (fun h => .inl h.2) (fun h => h H)
theorem TW.mono {K : PySem.W.Frag} {W W' : WS} {H H' : Hp} {a : Addr} {xs : List V} (g : Ge W H W' H') (h : TW K W H a xs) : TW K W' H' a xs := by
  rcases h with ⟨n, h | ⟨o, h⟩⟩ | h
  · exact .inl ⟨(g _ _ n h).1, .inl (g _ _ n h).2⟩
  · exact .inl ⟨(g _ _ n h).1, .inr ⟨o, (g _ _ n h).2⟩⟩
  · exact .inr h
theorem TW.of {K : PySem.W.Frag} {W : WS} {H : Hp} {a : Addr} {xs : List V} (n : ¬ W a) (h : H a = some (.tup xs)) : TW K W H a xs := .inl ⟨n, .inl h⟩
def lstR {α : Type} (S : Rp α) : Rp (List α) := ⟨fun K W H v xs => ∃ a vs, v = .ref a ∧ ¬ W a ∧ H a = some (.lst vs) ∧ Paired (S.r K W H) vs xs,
  fun g ⟨a, vs, e, n, h, p⟩ => ⟨a, vs, e, (g _ _ n h).1, (g _ _ n h).2, S.pmono g p⟩⟩
def tupR {α : Type} (S : Rp α) : Rp (List α) := ⟨fun K W H v xs => ∃ a vs, v = .ref a ∧ TW K W H a vs ∧ Paired (S.r K W H) vs xs,
  fun g ⟨a, vs, e, h, p⟩ => ⟨a, vs, e, h.mono g, S.pmono g p⟩⟩
def prR {α β : Type} (S : Rp α) (T : Rp β) : Rp (α × β) := ⟨fun K W H v x => ∃ a v1 v2, v = .ref a ∧ TW K W H a [v1, v2] ∧ S.r K W H v1 x.1 ∧ T.r K W H v2 x.2,
  fun g ⟨a, v1, v2, e, h, p, q⟩ => ⟨a, v1, v2, e, h.mono g, S.mono g p, T.mono g q⟩⟩
def triR {α β γ : Type} (S : Rp α) (T : Rp β) (U : Rp γ) : Rp (α × β × γ) := ⟨fun K W H v x => ∃ a v1 v2 v3, v = .ref a ∧ TW K W H a [v1, v2, v3] ∧ S.r K W H v1 x.1 ∧ T.r K W H v2 x.2.1 ∧ U.r K W H v3 x.2.2,
  fun g ⟨a, v1, v2, v3, e, h, p, q, s⟩ => ⟨a, v1, v2, v3, e, h.mono g, S.mono g p, T.mono g q, U.mono g s⟩⟩
/-- an entry as the laws hold it -/
def entR : Rp Ent := ⟨fun K W H v e => ∃ a w l, v = .ref a ∧ TW K W H a [.str e.name, w, .str e.back, l] ∧ (tupR strR).r K W H w e.wishes ∧ (tupR strR).r K W H l e.later,
  fun g ⟨a, w, l, e, h, p, q⟩ => ⟨a, w, l, e, h.mono g, (tupR strR).mono g p, (tupR strR).mono g q⟩⟩
/-- a menu as the laws hold it -/
def baseR : Rp Bs := ⟨fun K W H v b => ∃ a t w, v = .ref a ∧ TW K W H a [t, w] ∧ (tupR strR).r K W H t b.things ∧ (tupR entR).r K W H w b.ws,
  fun g ⟨a, t, w, e, h, p, q⟩ => ⟨a, t, w, e, h.mono g, (tupR strR).mono g p, (tupR entR).mono g q⟩⟩

/-- an own object that is no list -/
structure Ro (β : Type) where
  r : PySem.W.Frag → WS → Hp → Addr → HO → β → Prop
  mono : ∀ {K : PySem.W.Frag} {W W' : WS} {H H' : Hp} {a : Addr} {o : HO} {x : β}, Ge W H W' H' → r K W H a o x → r K W' H' a o x
  ext : ∀ {K : PySem.W.Frag} {W : WS} {H : Hp} {a : Addr} {o : HO} {x : β}, r K W H a o x → XoO o

/-! ### slots -/
inductive Sl (E : Type) : Type 1 where
  | any : Sl E
  | im {α : Type} (S : Rp α) (g : E → α) : Sl E
  | ow {α : Type} (S : Rp α) (g : E → List α) : Sl E
  | ox {β : Type} (R : Ro β) (g : E → β) : Sl E
  | sr : Sl E
/-- a def's entry: the heap, what its callers own, what of it is lent -/
structure Bc where
  H0 : Hp
  W : WS
  B : WS
abbrev Own := Nat → Option Addr
def Wb (c : Bc) (own : Own) : WS := fun a => c.W a ∨ ∃ i, own i = some a
def SlOk {E : Type} (K : PySem.W.Frag) (c : Bc) (W : WS) (H : Hp) (e : E) : Sl E → Option (Option V) → Option Addr → Prop
  | .any, _, oi => oi = none
  | .im S g, ov, oi => oi = none ∧ ∃ v, ov = some (some v) ∧ S.r K W H v (g e)
  | .ow S g, ov, oi => ∃ a vs, oi = some a ∧ ov = some (some (.ref a)) ∧ (c.H0 a = none ∧ ¬ c.W a) ∧ H a = some (.lst vs) ∧ Paired (S.r K W H) vs (g e)
  | .ox R g, ov, oi => ∃ a o, oi = some a ∧ ov = some (some (.ref a)) ∧ (c.H0 a = none ∧ ¬ c.W a) ∧ H a = some o ∧ R.r K W H a o (g e)
  | .sr, ov, oi => ∃ p, oi = some p ∧ ov = some (some (.ref p)) ∧ (c.B p ∨ c.H0 p = none) ∧ SrcAt H p
structure St {E : Type} (K : PySem.W.Frag) (c : Bc) (L : List (Sl E)) (σ : L2.St) (H : Hp) (e : E) (own : Own) : Prop where
  len : σ.length = L.length
  stay : ∀ a o, ¬ c.B a → c.H0 a = some o → H a = some o
  dom : ∀ a, c.W a → OwO (H a)
  bw : ∀ a, c.B a → c.W a
  bs : ∀ a, c.B a → ∃ i, L[i]? = some .sr ∧ own i = some a
  inj : ∀ i j a, own i = some a → own j = some a → i = j
  out : ∀ i, L[i]? = none → own i = none
  slot : ∀ i s, L[i]? = some s → SlOk K c (Wb c own) H e s σ[i]? (own i)
/-- the places of the drawn numbers' sources -/
def Sr {E : Type} (L : List (Sl E)) (own : Own) : WS := fun a => ∃ i, L[i]? = some .sr ∧ own i = some a
/-- what an expression may do to the heap -/
structure Ex {E : Type} (L : List (Sl E)) (own : Own) (H H' : Hp) : Prop where
  st : ∀ a o, ¬ Sr L own a → H a = some o → H' a = some o
  sr : ∀ a, Sr L own a → SrcAt H' a
section
variable {E : Type} {K : PySem.W.Frag} {c : Bc} {L : List (Sl E)} {σ : L2.St} {H H' H'' : Hp} {e : E} {own : Own}
theorem Sr.wb {a : Addr} (h : Sr L own a) : Wb c own a := let ⟨i, _, e⟩ := h; .inr ⟨i, e⟩
theorem Ex.ge (x : Ex L own H H') : Ge (Wb c own) H (Wb c own) H' := fun a o n h => ⟨n, x.st a o (fun z => n z.wb) h⟩
theorem Ex.trans (x : Ex L own H H') (y : Ex L own H' H'') : Ex L own H H'' := ⟨fun a o n h => y.st a o n (x.st a o n h), y.sr⟩
theorem St.sr (s : St K c L σ H e own) {a : Addr} (h : Sr L own a) : SrcAt H a := by
  obtain ⟨i, hL, ho⟩ := h
  obtain ⟨p, h1, _, _, h2⟩ := s.slot i _ hL
  rw [ho] at h1
  cases h1
  exact h2
theorem St.exSame (s : St K c L σ H e own) (k : Same H H') : Ex L own H H' := ⟨fun a o _ h => k a o h, fun a h => (s.sr h).same k⟩
theorem St.exRefl (s : St K c L σ H e own) : Ex L own H H := s.exSame (Same.refl _)
/-- what is owned is there -/
theorem St.has (s : St K c L σ H e own) {i : Nat} {a : Addr} (h : own i = some a) : OwO (H a) := by
  cases hL : L[i]? with
  | none =>
    rw [s.out i hL] at h
    cases h
  | some sl =>
    have q := s.slot i sl hL
    cases sl with
    | any =>
      rw [show own i = none from q] at h
      cases h
    | im S g =>
      rw [q.1] at h
      cases h
    | ow S g =>
      obtain ⟨b, vs, h1, _, _, h2, _⟩ := q
      rw [h] at h1
      cases h1
      exact .lst h2
    | ox R g =>
      obtain ⟨b, o, h1, _, _, h2, r⟩ := q
      rw [h] at h1
      cases h1
      exact .inr ⟨_, h2, R.ext r⟩
    | sr =>
      obtain ⟨p, h1, _, _, x, y, h2, _⟩ := q
      rw [h] at h1
      cases h1
      exact .lst h2
theorem St.hasW (s : St K c L σ H e own) {a : Addr} (h : Wb c own a) : OwO (H a) := by
  rcases h with h | ⟨i, h⟩
  · exact s.dom a h
  · exact s.has h
theorem St.fresh (s : St K c L σ H e own) {l : Addr} (h : H l = none) : ¬ Wb c own l := fun z => by
  obtain ⟨o, ho⟩ := (s.hasW z).some
  rw [h] at ho
  cases ho
theorem Ex.none (s : St K c L σ H e own) (x : Ex L own H H') {l : Addr} (h : H' l = Option.none) : H l = Option.none := by
  rcases q : H l with _ | o
  · rfl
  · by_cases hs : Sr L own l
    · obtain ⟨_, _, h2, _⟩ := x.sr l hs
      rw [h] at h2
      cases h2
    · have := x.st l o hs q
      rw [h] at this
      cases this
/-- behind an expression all stands as it stood -/
theorem St.ex (s : St K c L σ H e own) (x : Ex L own H H') : St K c L σ H' e own := by
  have nsr : ∀ a o, ¬ c.B a → c.H0 a = some o → ¬ Sr L own a := fun a o nb h0 ⟨i, hL, ho⟩ => by
    obtain ⟨p, h1, _, h2, _⟩ := s.slot i _ hL
    rw [ho] at h1
    cases h1
    rcases h2 with h2 | h2
    · exact nb h2
    · rw [h0] at h2
      cases h2
  have dom : ∀ a, c.W a → OwO (H' a) := fun a z => by
    by_cases hs : Sr L own a
    · obtain ⟨_, _, h, _⟩ := x.sr a hs
      exact .lst h
    · exact (s.dom a z).st fun o ho => x.st a _ hs ho
  refine ⟨s.len, fun a o nb h0 => x.st a o (nsr a o nb h0) (s.stay a o nb h0), dom, s.bw, s.bs, s.inj, s.out, fun i sl hL => ?_⟩
  have q := s.slot i sl hL
  cases sl with
  | any => exact q
  | im S g =>
    obtain ⟨h1, v, h2, h3⟩ := q
    exact ⟨h1, v, h2, S.mono x.ge h3⟩
  | ow S g =>
    obtain ⟨a, vs, h1, h2, h3, h4, h5⟩ := q
    refine ⟨a, vs, h1, h2, h3, x.st _ _ (fun ⟨j, hj, ho⟩ => ?_) h4, S.pmono x.ge h5⟩
    have := s.inj i j a h1 ho
    subst this
    rw [hL] at hj
    cases hj
  | ox R g =>
    obtain ⟨a, o, h1, h2, h3, h4, h5⟩ := q
    refine ⟨a, o, h1, h2, h3, x.st _ _ (fun ⟨j, hj, ho⟩ => ?_) h4, R.mono x.ge h5⟩
    have := s.inj i j a h1 ho
    subst this
    rw [hL] at hj
    cases hj
  | sr =>
    obtain ⟨p, h1, h2, h3, h4⟩ := q
    exact ⟨p, h1, h2, h3, x.sr p ⟨i, hL, h1⟩⟩
end

/-! ### expressions -/
def Mono {E α : Type} (w : E → (α → Prop) → Prop) : Prop := ∀ e k k', (∀ x, k x → k' x) → w e k → w e k'
/-- e gives a value that stands for what w says -/
structure TX {E α : Type} {ι : Type} (X : ι → Cx) (K : PySem.W.Frag) (L : List (Sl E)) (S : Rp α) (e : Expr) (w : E → (α → Prop) → Prop) : Prop where
  mono : Mono w
  ex : ∃ t, (∀ i, PE (X i) e t) ∧ ∀ (c : Bc) (σ : L2.St) (H : Hp) (env : E) (own : Own) (Q : VK), St K c L σ H env own → w env (fun x => ∀ v H', Ex L own H H' → S.r K (Wb c own) H' v x → Q v H') → t σ H Q
/-- e gives a new list -/
structure TN {E α : Type} {ι : Type} (X : ι → Cx) (K : PySem.W.Frag) (L : List (Sl E)) (S : Rp α) (e : Expr) (w : E → (List α → Prop) → Prop) : Prop where
  mono : Mono w
  ex : ∃ t, (∀ i, PE (X i) e t) ∧ ∀ (c : Bc) (σ : L2.St) (H : Hp) (env : E) (own : Own) (Q : VK), St K c L σ H env own →
    w env (fun xs => ∀ l vs H', H l = none → Ex L own H H' → H' l = some (.lst vs) → Paired (S.r K (fun a => Wb c own a ∨ a = l) H') vs xs → Q (.ref l) H') → t σ H Q
/-- e as a test -/
structure TT {E : Type} {ι : Type} (X : ι → Cx) (K : PySem.W.Frag) (L : List (Sl E)) (e : Expr) (w : E → (Bool → Prop) → Prop) : Prop where
  mono : Mono w
  ex : ∃ t, (∀ i, PT (X i) e t) ∧ ∀ (c : Bc) (σ : L2.St) (H : Hp) (env : E) (own : Own) (Q : Bool → Hp → Prop), St K c L σ H env own → w env (fun b => ∀ H', Ex L own H H' → Q b H') → t σ H Q
structure TTW {E : Type} {ι : Type} (X : ι → Cx) (K : PySem.W.Frag) (L : List (Sl E)) (e : Expr) (w : E → (Bool → Prop) → Prop) : Prop where
  mono : Mono w
  ex : ∃ t, (∀ i, PW (X i) e t) ∧ ∀ (c : Bc) (σ : L2.St) (H : Hp) (env : E) (own : Own) (Q : Bool → Hp → Prop), St K c L σ H env own → w env (fun b => ∀ H', Ex L own H H' → Q b H') → t σ H Q
section
variable {E α β γ : Type} {ι : Type} {X : ι → Cx} {K : PySem.W.Frag} {L : List (Sl E)} {S : Rp α} {T : Rp β} {U : Rp γ} {e a b : Expr} {pos : Pos}
theorem TN.tx {w : E → (List α → Prop) → Prop} (h : TN X K L S e w) : TX X K L (lstR S) e w := by
  obtain ⟨t, ht, f⟩ := h.ex
  refine ⟨h.mono, t, ht, fun c σ H env own Q s hw => f c σ H env own Q s (h.mono _ _ _ (fun xs k l vs H' n x e p => k _ _ x ⟨l, vs, rfl, ?_, e, S.pmono (Ge.less fun a z => .inl z) p⟩) hw)⟩
  exact s.fresh n
theorem TX.val {w : E → (Bool → Prop) → Prop} (h : TX X K L boolR e w) (he : ∀ i whole, isTrue e (X i).env whole = (do let v ← whole; standAt e.pos; holding [v] (truthy v)) := by intro _ _; rfl) : TT X K L e w := by
  obtain ⟨t, ht, f⟩ := h.ex
  exact ⟨h.mono, _, fun i => pt_val (ht i) (he i), fun c σ H env own Q s hw => f c σ H env own _ s (h.mono _ _ _ (fun b k v H' x r => ⟨b, r, k H' x⟩) hw)⟩
theorem TTW.tt {w : E → (Bool → Prop) → Prop} (h : TTW X K L e w) : TT X K L e w := by
  obtain ⟨t, ht, f⟩ := h.ex
  exact ⟨h.mono, t, fun i => (ht i).pt, f⟩
/-- a name -/
theorem tx_im {g : E → α} {i : Nat} {x : Str} (hL : L[i]? = some (.im S g)) (hN : ∀ j, (X j).N[i]? = some x) (hv : ∀ j, Vis (X j).env.scope x) (hd : (x == ("__debug__" : Str)) = false := by decide) (hcd : (x == ("__classdict__" : Str)) = false := by decide) : TX X K L S (.Name x pos) fun env k => k (g env) := by
  refine ⟨fun _ _ _ h => h _, _, fun j => pe_var (hN j) (hv j) hd hcd, fun c σ H env own Q s hw => ?_⟩
  obtain ⟨_, v, h1, h2⟩ := s.slot i _ hL
  exact ⟨v, h1, hw v H s.exRefl h2⟩
theorem tx_int {i j} : TX X K L intR (.Constant (.int i) j pos) fun _ k => k i := ⟨fun _ _ _ h => h _, _, fun _ => pe_int, fun c σ H env own Q s hw => hw _ _ s.exRefl rfl⟩
theorem tx_str {x j} : TX X K L strR (.Constant (.str x) j pos) fun _ k => k x := ⟨fun _ _ _ h => h _, _, fun _ => pe_str, fun c σ H env own Q s hw => hw _ _ s.exRefl rfl⟩
theorem tx_bl {x j} : TX X K L boolR (.Constant (.bool x) j pos) fun _ k => k x := ⟨fun _ _ _ h => h _, _, fun _ => pe_bl, fun c σ H env own Q s hw => hw _ _ s.exRefl rfl⟩
theorem tx_non {j} : TX X K L nonR (.Constant .none j pos) fun _ k => k () := ⟨fun _ _ _ h => h _, _, fun _ => pe_non, fun c σ H env own Q s hw => hw _ _ s.exRefl rfl⟩
/-- a rule by values, of two places -/
structure VR2 (K : PySem.W.Frag) (S : Rp α) (T : Rp β) (U : Rp γ) (r : R2) (w : α → β → (γ → Prop) → Prop) : Prop where
  mono : ∀ x y k k', (∀ z, k z → k' z) → w x y k → w x y k'
  run : ∀ (W : WS) (H : Hp) (x : α) (y : β) (v u : V) (Q : VK), (∀ l, H l = none → ¬ W l) → S.r K W H v x → T.r K W H u y → w x y (fun z => ∀ v' H', Same H H' → U.r K W H' v' z → Q v' H') → r v u H Q
structure VN2 (K : PySem.W.Frag) (S : Rp α) (T : Rp β) (U : Rp γ) (r : R2) (w : α → β → (List γ → Prop) → Prop) : Prop where
  mono : ∀ x y k k', (∀ z, k z → k' z) → w x y k → w x y k'
  run : ∀ (W : WS) (H : Hp) (x : α) (y : β) (v u : V) (Q : VK), (∀ l, H l = none → ¬ W l) → S.r K W H v x → T.r K W H u y →
    w x y (fun zs => ∀ l vs H', H l = none → Same H H' → H' l = some (.lst vs) → Paired (U.r K (fun a => W a ∨ a = l) H') vs zs → Q (.ref l) H') → r v u H Q
variable {wa : E → (α → Prop) → Prop} {wb : E → (β → Prop) → Prop}
theorem two {t1 t2 : TE} {r : R2} {w : α → β → (γ → Prop) → Prop} (ma : Mono wa) (mb : Mono wb)
    (fa : ∀ (c : Bc) (σ : L2.St) (H : Hp) (env : E) (own : Own) (Q : VK), St K c L σ H env own → wa env (fun x => ∀ v H', Ex L own H H' → S.r K (Wb c own) H' v x → Q v H') → t1 σ H Q)
    (fb : ∀ (c : Bc) (σ : L2.St) (H : Hp) (env : E) (own : Own) (Q : VK), St K c L σ H env own → wb env (fun x => ∀ v H', Ex L own H H' → T.r K (Wb c own) H' v x → Q v H') → t2 σ H Q)
    (v : VR2 K S T U r w) : (Mono fun e k => wa e fun x => wb e fun y => w x y k) ∧ ∀ (c : Bc) (σ : L2.St) (H : Hp) (env : E) (own : Own) (Q : VK), St K c L σ H env own → (wa env fun x => wb env fun y => w x y (fun x => ∀ v H', Ex L own H H' → U.r K (Wb c own) H' v x → Q v H')) → tOp r t1 t2 σ H Q := by
  refine ⟨fun e k k' h hw => ma _ _ _ (fun x hx => mb _ _ _ (fun y hy => v.mono _ _ _ _ h hy) hx) hw, fun c σ H env own Q s hw => ?_⟩
  refine fa c σ H env own _ s (ma _ _ _ (fun x hx v1 H1 x1 r1 => ?_) hw)
  refine fb c σ H1 env own _ (s.ex x1) (mb _ _ _ (fun y hy v2 H2 x2 r2 => ?_) hx)
  have s2 := (s.ex x1).ex x2
  exact v.run _ _ _ _ _ _ _ (fun l hl => s2.fresh hl) (S.mono x2.ge r1) r2 (v.mono _ _ _ _ (fun z hz v' H' k' r' => hz v' H' (x1.trans (x2.trans (s2.exSame k'))) r') hy)
theorem tx_op {op : Operator} {r : R2} {w : α → β → (γ → Prop) → Prop} (ho : ∀ i, OpR (X i) (binaryOp op) r) (v : VR2 K S T U r w) (ha : TX X K L S a wa) (hb : TX X K L T b wb) : TX X K L U (.BinOp a op b pos) (fun e k => wa e fun x => wb e fun y => w x y k) := by
  obtain ⟨t1, p1, f1⟩ := ha.ex
  obtain ⟨t2, p2, f2⟩ := hb.ex
  obtain ⟨m, f⟩ := two ha.mono hb.mono f1 f2 v
  exact ⟨m, _, fun i => pe_op (ho i) (p1 i) (p2 i), f⟩
theorem tx_cmp {op : CmpOp} {r : R2} {w : α → β → (Bool → Prop) → Prop} (ho : ∀ i, OpR (X i) (compareOp op) r) (v : VR2 K S T boolR r w) (ha : TX X K L S a wa) (hb : TX X K L T b wb) (hm : behindInMarks op b = false) : TX X K L boolR (.Compare a [op] [b] pos) (fun e k => wa e fun x => wb e fun y => w x y k) := by
  obtain ⟨t1, p1, f1⟩ := ha.ex
  obtain ⟨t2, p2, f2⟩ := hb.ex
  obtain ⟨m, f⟩ := two ha.mono hb.mono f1 f2 v
  exact ⟨m, _, fun i => pe_cmpR (ho i) (p1 i) (p2 i) hm, f⟩
theorem tt_cmp {op : CmpOp} {r : R2} {w : α → β → (Bool → Prop) → Prop} (ho : ∀ i, OpR (X i) (compareOp op) r) (v : VR2 K S T boolR r w) (ha : TX X K L S a wa) (hb : TX X K L T b wb) (hm : behindInMarks op b = false) : TT X K L (.Compare a [op] [b] pos) (fun e k => wa e fun x => wb e fun y => w x y k) := by
  obtain ⟨t1, p1, f1⟩ := ha.ex
  obtain ⟨t2, p2, f2⟩ := hb.ex
  obtain ⟨m, f⟩ := two ha.mono hb.mono f1 f2 v
  refine ⟨m, _, fun i => pt_cmpR (ho i) (p1 i) (p2 i) hm, fun c σ H env own Q s hw => f c σ H env own (fun x H' => ∃ k, x = .bl k ∧ Q k H') s (m env (fun b => ∀ H', Ex L own H H' → Q b H') _ (fun b hb v H' x r => ⟨b, r, hb H' x⟩) hw)⟩
theorem tx_ix {r : R2} {w : α → β → (γ → Prop) → Prop} (ho : ∀ i, IxR (X i) r) (v : VR2 K S T U r w) (ha : TX X K L S a wa) (hb : TX X K L T b wb) (hs : PlainIx b) : TX X K L U (.Subscript a b pos) (fun e k => wa e fun x => wb e fun y => w x y k) := by
  obtain ⟨t1, p1, f1⟩ := ha.ex
  obtain ⟨t2, p2, f2⟩ := hb.ex
  obtain ⟨m, f⟩ := two ha.mono hb.mono f1 f2 v
  exact ⟨m, _, fun i => pe_ix (ho i) (p1 i) (p2 i) hs, f⟩
theorem tn_op {op : Operator} {r : R2} {w : α → β → (List γ → Prop) → Prop} (ho : ∀ i, OpR (X i) (binaryOp op) r) (v : VN2 K S T U r w) (ha : TX X K L S a wa) (hb : TX X K L T b wb) : TN X K L U (.BinOp a op b pos) (fun e k => wa e fun x => wb e fun y => w x y k) := by
  obtain ⟨t1, p1, f1⟩ := ha.ex
  obtain ⟨t2, p2, f2⟩ := hb.ex
  refine ⟨fun e k k' h hw => ha.mono _ _ _ (fun x hx => hb.mono _ _ _ (fun y hy => v.mono _ _ _ _ h hy) hx) hw, _, fun i => pe_op (ho i) (p1 i) (p2 i), fun c σ H env own Q s hw => ?_⟩
  refine f1 c σ H env own _ s (ha.mono _ _ _ (fun x hx v1 H1 x1 r1 => ?_) hw)
  refine f2 c σ H1 env own _ (s.ex x1) (hb.mono _ _ _ (fun y hy v2 H2 x2 r2 => ?_) hx)
  have s2 := (s.ex x1).ex x2
  exact v.run _ _ _ _ _ _ _ (fun l hl => s2.fresh hl) (S.mono x2.ge r1) r2 (v.mono _ _ _ _ (fun z hz l vs H' n k' e' p' => hz l vs H' (Ex.none s (x1.trans x2) n) (x1.trans (x2.trans (s2.exSame k'))) e' p') hy)

/-! ### and, or, not, if -/
variable {wt wu : E → (Bool → Prop) → Prop} {rest : List Expr}
theorem tt_not (h : TT X K L a wt) : TT X K L (.UnaryOp .Not a pos) (fun e k => wt e fun b => k (!b)) := by
  obtain ⟨t, p, f⟩ := h.ex
  exact ⟨fun e k k' h' hw => h.mono _ _ _ (fun b hb => h' _ hb) hw, _, fun i => pt_not (p i), fun c σ H env own Q s hw => f c σ H env own _ s (h.mono _ _ _ (fun b hb H' x => hb H' x) hw)⟩
theorem tw_one_and (h : TT X K L a wt) : TTW X K L (.BoolOp .And [a] pos) wt := by
  obtain ⟨t, p, f⟩ := h.ex
  exact ⟨h.mono, _, fun i => pw_and1 (p i), f⟩
theorem tw_one_or (h : TT X K L a wt) : TTW X K L (.BoolOp .Or [a] pos) wt := by
  obtain ⟨t, p, f⟩ := h.ex
  exact ⟨h.mono, _, fun i => pw_or1 (p i), f⟩
theorem tw_and (ha : TT X K L a wt) (hb : TTW X K L (.BoolOp .And (b :: rest) pos) wu) : TTW X K L (.BoolOp .And (a :: b :: rest) pos) (fun e k => wt e fun x => if x = true then wu e k else k false) := by
  obtain ⟨t1, p1, f1⟩ := ha.ex
  obtain ⟨t2, p2, f2⟩ := hb.ex
  refine ⟨fun e k k' h hw => ha.mono _ _ _ (fun x hx => ?_) hw, _, fun i => pw_and (p1 i) (p2 i), fun c σ H env own Q s hw => f1 c σ H env own _ s (ha.mono _ _ _ (fun x hx H1 x1 => ?_) hw)⟩
  · cases x
    · exact h _ hx
    · exact hb.mono _ _ _ h hx
  · cases x
    · exact hx H1 x1
    · exact f2 c σ H1 env own _ (s.ex x1) (hb.mono _ _ _ (fun y hy H2 x2 => hy H2 (x1.trans x2)) hx)
theorem tw_or (ha : TT X K L a wt) (hb : TTW X K L (.BoolOp .Or (b :: rest) pos) wu) : TTW X K L (.BoolOp .Or (a :: b :: rest) pos) (fun e k => wt e fun x => if x = true then k true else wu e k) := by
  obtain ⟨t1, p1, f1⟩ := ha.ex
  obtain ⟨t2, p2, f2⟩ := hb.ex
  refine ⟨fun e k k' h hw => ha.mono _ _ _ (fun x hx => ?_) hw, _, fun i => pw_or (p1 i) (p2 i), fun c σ H env own Q s hw => f1 c σ H env own _ s (ha.mono _ _ _ (fun x hx H1 x1 => ?_) hw)⟩
  · cases x
    · exact hb.mono _ _ _ h hx
    · exact h _ hx
  · cases x
    · exact f2 c σ H1 env own _ (s.ex x1) (hb.mono _ _ _ (fun y hy H2 x2 => hy H2 (x1.trans x2)) hx)
    · exact hx H1 x1
theorem tx_if {c0 : Expr} {wa' : E → (α → Prop) → Prop} (hc : TT X K L c0 wt) (ha : TX X K L S a wa) (hb : TX X K L S b wa') : TX X K L S (.IfExp c0 a b pos) (fun e k => wt e fun x => if x = true then wa e k else wa' e k) := by
  obtain ⟨t0, p0, f0⟩ := hc.ex
  obtain ⟨t1, p1, f1⟩ := ha.ex
  obtain ⟨t2, p2, f2⟩ := hb.ex
  refine ⟨fun e k k' h hw => hc.mono _ _ _ (fun x hx => ?_) hw, _, fun i => pe_ifExp (p0 i) (p1 i) (p2 i), fun c σ H env own Q s hw => f0 c σ H env own _ s (hc.mono _ _ _ (fun x hx H1 x1 => ?_) hw)⟩
  · cases x
    · exact hb.mono _ _ _ h hx
    · exact ha.mono _ _ _ h hx
  · cases x
    · exact f2 c σ H1 env own _ (s.ex x1) (hb.mono _ _ _ (fun y hy v H2 x2 r => hy v H2 (x1.trans x2) r) hx)
    · exact f1 c σ H1 env own _ (s.ex x1) (ha.mono _ _ _ (fun y hy v H2 x2 r => hy v H2 (x1.trans x2) r) hx)
end
end Tx

/-! arguments, calls, what a def promises; statements -/
namespace Tx
open PySem PySem.Spec PyProof.Rows L2 Gx

/-! ### arguments -/
inductive Ar : Type → Type 1 where
  | nil : Ar Unit
  | cons {α τ : Type} (S : Rp α) (A : Ar τ) : Ar (α × τ)
  | src {τ : Type} (A : Ar τ) : Ar τ
def srB : {τ : Type} → Ar τ → Nat → Bool
  | _, .nil, _ => false
  | _, .cons S A, 0 => false
  | _, .cons S A, i + 1 => srB A i
  | _, .src A, 0 => true
  | _, .src A, i + 1 => srB A i
def srAt {τ : Type} (A : Ar τ) (i : Nat) : Prop := srB A i = true
def srs : {τ : Type} → Ar τ → Nat
  | _, .nil => 0
  | _, .cons S A => srs A
  | _, .src A => srs A + 1
def arn : {τ : Type} → Ar τ → Nat
  | _, .nil => 0
  | _, .cons S A => arn A + 1
  | _, .src A => arn A + 1
def ArOk (K : PySem.W.Frag) (W : WS) (H : Hp) (P : WS) : {τ : Type} → Ar τ → List V → τ → Prop
  | _, .nil, vs, _ => vs = []
  | _, .cons S A, vs, x => ∃ v us, vs = v :: us ∧ S.r K W H v x.1 ∧ ArOk K W H P A us x.2
  | _, .src A, vs, x => ∃ p us, vs = .ref p :: us ∧ P p ∧ ArOk K W H P A us x
theorem ArOk.imp {K : PySem.W.Frag} {W W' : WS} {H H' : Hp} {P P' : WS} (g : Ge W H W' H') (f : ∀ a, P a → P' a) : ∀ {τ : Type} {A : Ar τ} {vs : List V} {x : τ}, ArOk K W H P A vs x → ArOk K W' H' P' A vs x := by
  intro τ A
  induction A with
  | nil => exact fun h => h
  | cons S A ih =>
    rintro vs x ⟨v, us, e, h1, h2⟩
    exact ⟨v, us, e, S.mono g h1, ih h2⟩
  | src A ih =>
    rintro vs x ⟨v, us, e, h1, h2⟩
    exact ⟨v, us, e, f _ h1, ih h2⟩
theorem ArOk.len {K : PySem.W.Frag} {W : WS} {H : Hp} {P : WS} : ∀ {τ : Type} {A : Ar τ} {vs : List V} {x : τ}, ArOk K W H P A vs x → vs.length = arn A := by
  intro τ A
  induction A with
  | nil =>
    intro vs x h
    rw [show vs = [] from h]
    rfl
  | cons S A ih =>
    rintro vs x ⟨v, us, rfl, h1, h2⟩
    simp [arn, ih h2]
  | src A ih =>
    rintro vs x ⟨v, us, rfl, h1, h2⟩
    simp [arn, ih h2]
theorem ArOk.at {K : PySem.W.Frag} {W : WS} {H : Hp} {P : WS} : ∀ {τ : Type} {A : Ar τ} {vs : List V} {x : τ} {i : Nat}, ArOk K W H P A vs x → srAt A i → ∃ p, vs[i]? = some (.ref p) ∧ P p := by
  intro τ A
  induction A with
  | nil => exact fun _ h => absurd h (by simp [srAt, srB])
  | cons S A ih =>
    rintro vs x i ⟨v, us, rfl, h1, h2⟩ h
    cases i with
    | zero => exact absurd h (by simp [srAt, srB])
    | succ i => exact ih (i := i) h2 h
  | src A ih =>
    rintro vs x i ⟨v, us, rfl, h1, h2⟩ h
    cases i with
    | zero => exact ⟨v, rfl, h1⟩
    | succ i => exact ih (i := i) h2 h
/-- the sources among the arguments -/
def Bof {τ : Type} (A : Ar τ) (vs : List V) : WS := fun a => ∃ i, srAt A i ∧ vs[i]? = some (.ref a)
structure TA {E τ : Type} {ι : Type} (X : ι → Cx) (K : PySem.W.Frag) (L : List (Sl E)) (A : Ar τ) (es : List Expr) (w : E → (τ → Prop) → Prop) : Prop where
  mono : Mono w
  ex : ∃ t, (∀ i, PA (X i) es t) ∧ ∀ (c : Bc) (σ : L2.St) (H : Hp) (env : E) (own : Own) (Q : List V → Hp → Prop), St K c L σ H env own → w env (fun x => ∀ vs H', Ex L own H H' → ArOk K (Wb c own) H' (Sr L own) A vs x → Q vs H') → t σ H Q
section
variable {E α τ : Type} {ι : Type} {X : ι → Cx} {K : PySem.W.Frag} {L : List (Sl E)} {S : Rp α} {A : Ar τ} {e : Expr} {es : List Expr} {pos : Pos}
theorem ta_nil : TA X K L .nil [] (fun _ k => k ()) := ⟨fun _ _ _ h => h _, _, fun _ => pa_nil, fun c σ H env own Q s hw => hw _ _ s.exRefl rfl⟩
theorem ta_cons {wa : E → (α → Prop) → Prop} {wb : E → (τ → Prop) → Prop} (ha : TX X K L S e wa) (hb : TA X K L A es wb) (hs : ∀ i, starEach (e :: es) (X i).env = (false, eval e (X i).env) :: starEach es (X i).env := by intro _; rfl) : TA X K L (.cons S A) (e :: es) (fun env k => wa env fun x => wb env fun y => k (x, y)) := by
  obtain ⟨t1, p1, f1⟩ := ha.ex
  obtain ⟨t2, p2, f2⟩ := hb.ex
  refine ⟨fun e k k' h hw => ha.mono _ _ _ (fun x hx => hb.mono _ _ _ (fun y hy => h _ hy) hx) hw, _, fun i => pa_cons (p1 i) (p2 i) (hs i), fun c σ H env own Q s hw => ?_⟩
  refine f1 c σ H env own _ s (ha.mono _ _ _ (fun x hx v1 H1 x1 r1 => ?_) hw)
  refine f2 c σ H1 env own _ (s.ex x1) (hb.mono _ _ _ (fun y hy us H2 x2 r2 => ?_) hx)
  exact hy _ H2 (x1.trans x2) ⟨v1, us, rfl, S.mono x2.ge r1, r2⟩
theorem ta_src {i : Nat} {x : Str} {p : Pos} {wb : E → (τ → Prop) → Prop} (hL : L[i]? = some .sr) (hN : ∀ j, (X j).N[i]? = some x) (hv : ∀ j, Vis (X j).env.scope x) (hb : TA X K L A es wb) (hs : ∀ j, starEach (.Name x p :: es) (X j).env = (false, eval (.Name x p) (X j).env) :: starEach es (X j).env := by intro _; rfl)
    (hd : (x == ("__debug__" : Str)) = false := by decide) (hcd : (x == ("__classdict__" : Str)) = false := by decide) : TA X K L (.src A) (.Name x p :: es) wb := by
  obtain ⟨t2, p2, f2⟩ := hb.ex
  refine ⟨hb.mono, _, fun j => pa_cons (pe_var (hN j) (hv j) hd hcd) (p2 j) (hs j), fun c σ H env own Q s hw => ?_⟩
  obtain ⟨q, h1, h2, _, _⟩ := s.slot i _ hL
  refine ⟨.ref q, h2, f2 c σ H env own _ s (hb.mono _ _ _ (fun y hy us H2 x2 r2 => hy _ H2 x2 ⟨q, us, rfl, ⟨i, hL, h1⟩, r2⟩) hw)⟩
end

/-! ### what a def hands back -/
/-- more is known to stay -/
structure Pin (c c' : Bc) : Prop where
  W : c'.W = c.W
  B : c'.B = c.B
  st : ∀ a o, ¬ c.B a → c.H0 a = some o → c'.H0 a = some o
theorem Pin.none {c c' : Bc} (p : Pin c c') {l : Addr} (nb : ¬ c'.B l) (n : c'.H0 l = Option.none) : c.H0 l = Option.none := by
  rw [p.B] at nb
  rcases z : c.H0 l with _ | o
  · rfl
  · rw [p.st l o nb z] at n
    cases n
def Bk (c : Bc) (H' : Hp) : Prop := (∀ a o, ¬ c.B a → c.H0 a = some o → H' a = some o) ∧ ∀ a, c.B a → SrcAt H' a
theorem Bk.pin {c c' : Bc} {H' : Hp} (p : Pin c c') (h : Bk c' H') : Bk c H' := ⟨fun a o n e => h.1 a o (by rw [p.B]; exact n) (p.st a o n e), fun a z => h.2 a (by rw [p.B]; exact z)⟩
structure RetR (ρ : Type) where
  r : PySem.W.Frag → Bc → Hp → V → ρ → Prop
  pin : ∀ {K : PySem.W.Frag} {c c' : Bc} {H' : Hp} {v : V} {x : ρ}, Pin c c' → r K c' H' v x → r K c H' v x
def retI {ρ : Type} (S : Rp ρ) : RetR ρ := ⟨fun K c H' v r => Bk c H' ∧ S.r K c.W H' v r, fun p ⟨h1, h2⟩ => ⟨h1.pin p, by rw [← p.W]; exact h2⟩⟩
def retN {α : Type} (S : Rp α) : RetR (List α) := ⟨fun K c H' v r => Bk c H' ∧ ∃ l vs, v = .ref l ∧ c.H0 l = none ∧ ¬ c.B l ∧ H' l = some (.lst vs) ∧ Paired (S.r K (fun a => c.W a ∨ a = l) H') vs r,
  fun {K c c' H' v x} p ⟨h1, l, vs, e, n, nb, h, q⟩ => ⟨h1.pin p, l, vs, e, p.none nb n, fun z => nb (by rw [p.B]; exact z), h, by rw [← p.W]; exact q⟩⟩
/-- a promise over plain values -/
def spT (K : PySem.W.Frag) {τ ρ : Type} (A : Ar τ) (R : RetR ρ) (w : τ → (ρ → Prop) → Prop) : Sp := fun vs H Q _ => ∃ (W : WS) (x : τ), (∀ a, W a → OwO (H a)) ∧ ArOk K W H (fun p => W p ∧ SrcAt H p) A vs x ∧ w x (fun r => ∀ v H', R.r K ⟨H, W, Bof A vs⟩ H' v r → Q v H')
section
variable {E α τ ρ : Type} {ι : Type} {X : ι → Cx} {K : PySem.W.Frag} {L : List (Sl E)} {S : Rp α} {A : Ar τ} {e : Expr} {es : List Expr} {pos p : Pos}
theorem called {R : RetR ρ} {w : τ → (ρ → Prop) → Prop} {c : Bc} {σ : L2.St} {H : Hp} {env : E} {own : Own} {vs : List V} {x : τ} {Q : VK} {E0 : XK} (s : St K c L σ H env own) (ok : ArOk K (Wb c own) H (Sr L own) A vs x) (h : w x (fun r => ∀ v H', R.r K ⟨H, Wb c own, Bof A vs⟩ H' v r → Q v H')) : spT K A R w vs H Q E0 :=
  ⟨Wb c own, x, fun a z => s.hasW z, ok.imp Ge.refl fun a z => ⟨z.wb, s.sr z⟩, h⟩
theorem Bk.ex {c : Bc} {σ : L2.St} {H H' : Hp} {env : E} {own : Own} {vs : List V} {x : τ} (s : St K c L σ H env own) (ok : ArOk K (Wb c own) H (Sr L own) A vs x) (h : Bk ⟨H, Wb c own, Bof A vs⟩ H') : Ex L own H H' := by
  have sub : ∀ a, Bof A vs a → Sr L own a := fun a ⟨i, h1, h2⟩ => by
    obtain ⟨p, h3, h4⟩ := ok.at h1
    rw [h2] at h3
    cases h3
    exact h4
  refine ⟨fun a o n e => h.1 a o (fun z => n (sub a z)) e, fun a z => ?_⟩
  by_cases hb : Bof A vs a
  · exact h.2 a hb
  · obtain ⟨x, y, e, q⟩ := s.sr z
    exact ⟨x, y, h.1 a _ hb e, q⟩
theorem tx_call {k : Nat} {f : Str} {w : τ → (α → Prop) → Prop} {wa : E → (τ → Prop) → Prop} (cl : ∀ i, Ca (X i).prog (X i).w (X i).K (X i).mg (X i).base CX0 k f (spT K A (retI S) w)) (mw : ∀ x k k', (∀ y, k y → k' y) → w x k → w x k') (hr : ∀ i, Room k (X i).A) (hg : ∀ i, Gl (X i) f) (ha : TA X K L A (e :: es) wa)
    (hdb : (f == ("__debug__" : Str)) = false := by decide) (he : ∀ i, starEach (e :: es) (X i).env = (false, eval e (X i).env) :: starEach es (X i).env := by intro _; rfl) (hpl : ∀ i, (backTo pos (starEach es (X i).env)).any (·.1) = false := by intro _; rfl) : TX X K L S (.Call (.Name f p) (e :: es) [] pos) (fun env k => wa env fun x => w x k) := by
  obtain ⟨t, pt, ft⟩ := ha.ex
  refine ⟨fun e k k' h hw => ha.mono _ _ _ (fun x hx => mw _ _ _ h hx) hw, _, fun i => pe_ca (E := fun _ _ _ => False) (cl i) (hr i) (hg i) pass0 (pt i) hdb (he i) (hpl i), fun c σ H env own Q s hw => ?_⟩
  refine ft c σ H env own _ s (ha.mono _ _ _ (fun x hx vs H1 x1 ok => ?_) hw)
  rw [List.append_nil]
  have s1 := s.ex x1
  refine called s1 ok (mw _ _ _ (fun y hy v H' r => ?_) hx)
  exact hy v H' (x1.trans (Bk.ex s1 ok r.1)) r.2
theorem tn_call {k : Nat} {f : Str} {w : τ → (List α → Prop) → Prop} {wa : E → (τ → Prop) → Prop} (cl : ∀ i, Ca (X i).prog (X i).w (X i).K (X i).mg (X i).base CX0 k f (spT K A (retN S) w)) (mw : ∀ x k k', (∀ y, k y → k' y) → w x k → w x k') (hr : ∀ i, Room k (X i).A) (hg : ∀ i, Gl (X i) f) (ha : TA X K L A (e :: es) wa)
    (hdb : (f == ("__debug__" : Str)) = false := by decide) (he : ∀ i, starEach (e :: es) (X i).env = (false, eval e (X i).env) :: starEach es (X i).env := by intro _; rfl) (hpl : ∀ i, (backTo pos (starEach es (X i).env)).any (·.1) = false := by intro _; rfl) : TN X K L S (.Call (.Name f p) (e :: es) [] pos) (fun env k => wa env fun x => w x k) := by
  obtain ⟨t, pt, ft⟩ := ha.ex
  refine ⟨fun e k k' h hw => ha.mono _ _ _ (fun x hx => mw _ _ _ h hx) hw, _, fun i => pe_ca (E := fun _ _ _ => False) (cl i) (hr i) (hg i) pass0 (pt i) hdb (he i) (hpl i), fun c σ H env own Q s hw => ?_⟩
  refine ft c σ H env own _ s (ha.mono _ _ _ (fun x hx vs H1 x1 ok => ?_) hw)
  rw [List.append_nil]
  have s1 := s.ex x1
  refine called s1 ok (mw _ _ _ (fun y hy v H' r => ?_) hx)
  obtain ⟨b, l, us, rfl, n, _, e, p⟩ := r
  exact hy l us H' (Ex.none s x1 n) (x1.trans (Bk.ex s1 ok b)) e p
end

/-! ### statements -/
structure Kn (E ρ : Type) where
  nx : E → Prop
  rt : ρ → Prop
def MonoS {E ρ : Type} (w : E → Kn E ρ → Prop) : Prop := ∀ e (k k' : Kn E ρ), (∀ x, k.nx x → k'.nx x) → (∀ x, k.rt x → k'.rt x) → w e k → w e k'
def kon {E ρ : Type} (K : PySem.W.Frag) (R : RetR ρ) (L' : List (Sl E)) (c : Bc) (D : Ends) : Kn E ρ := ⟨fun e' => ∀ σ' H' own', St K c L' σ' H' e' own' → D.nx σ' H', fun r => ∀ v H', R.r K c H' v r → D.rt v H'⟩
structure TS1 {E ρ : Type} {ι : Type} (X : ι → Cx) (K : PySem.W.Frag) (R : RetR ρ) (L L' : List (Sl E)) (s : Stmt) (w : E → Kn E ρ → Prop) : Prop where
  mono : MonoS w
  ex : ∃ t, (∀ i, PS (X i) s t) ∧ ∀ (c : Bc) (σ : L2.St) (H : Hp) (env : E) (own : Own) (D : Ends), St K c L σ H env own → w env (kon K R L' c D) → t D σ H
structure TS {E ρ : Type} {ι : Type} (X : ι → Cx) (K : PySem.W.Frag) (R : RetR ρ) (L L' : List (Sl E)) (ss : List Stmt) (w : E → Kn E ρ → Prop) : Prop where
  mono : MonoS w
  ex : ∃ t, (∀ i, PSs (X i) ss t) ∧ ∀ (c : Bc) (σ : L2.St) (H : Hp) (env : E) (own : Own) (D : Ends), St K c L σ H env own → w env (kon K R L' c D) → t D σ H
def nsr {E : Type} : Sl E → Bool
  | .sr => false
  | _ => true
/-- from the end of one def's body to another layout -/
inductive Sub {E E' : Type} (f : E → E') : List (Sl E) → List (Sl E') → Prop where
  | nil : Sub f [] []
  | any {s : Sl E} {L : List (Sl E)} {L' : List (Sl E')} : nsr s = true → Sub f L L' → Sub f (s :: L) (.any :: L')
  | im {α : Type} {S : Rp α} {g : E → α} {g' : E' → α} {L : List (Sl E)} {L' : List (Sl E')} : (∀ e, g' (f e) = g e) → Sub f L L' → Sub f (.im S g :: L) (.im S g' :: L')
  | ow {α : Type} {S : Rp α} {g : E → List α} {g' : E' → List α} {L : List (Sl E)} {L' : List (Sl E')} : (∀ e, g' (f e) = g e) → Sub f L L' → Sub f (.ow S g :: L) (.ow S g' :: L')
  | fr {α : Type} {S : Rp α} {g : E → List α} {g' : E' → List α} {L : List (Sl E)} {L' : List (Sl E')} : (∀ e, g' (f e) = g e) → Sub f L L' → Sub f (.ow S g :: L) (.im (lstR S) g' :: L')
  | ox {β : Type} {R : Ro β} {g : E → β} {g' : E' → β} {L : List (Sl E)} {L' : List (Sl E')} : (∀ e, g' (f e) = g e) → Sub f L L' → Sub f (.ox R g :: L) (.ox R g' :: L')
  | sr {L : List (Sl E)} {L' : List (Sl E')} : Sub f L L' → Sub f (.sr :: L) (.sr :: L')
theorem Sub.at {E E' : Type} {f : E → E'} : ∀ {L : List (Sl E)} {L' : List (Sl E')} {i : Nat}, Sub f L L' → (L[i]? = none ∧ L'[i]? = none) ∨ ∃ s s', L[i]? = some s ∧ L'[i]? = some s' ∧ Sub f [s] [s']
  | _, _, i, .nil => .inl ⟨by simp, by simp⟩
  | _, _, 0, .any n h => .inr ⟨_, _, rfl, rfl, .any n .nil⟩
  | _, _, 0, .im n h => .inr ⟨_, _, rfl, rfl, .im n .nil⟩
  | _, _, 0, .ow n h => .inr ⟨_, _, rfl, rfl, .ow n .nil⟩
  | _, _, 0, .fr n h => .inr ⟨_, _, rfl, rfl, .fr n .nil⟩
  | _, _, 0, .ox n h => .inr ⟨_, _, rfl, rfl, .ox n .nil⟩
  | _, _, 0, .sr h => .inr ⟨_, _, rfl, rfl, .sr .nil⟩
  | _, _, i + 1, .any n h => h.at (i := i)
  | _, _, i + 1, .im n h => h.at (i := i)
  | _, _, i + 1, .ow n h => h.at (i := i)
  | _, _, i + 1, .fr n h => h.at (i := i)
  | _, _, i + 1, .ox n h => h.at (i := i)
  | _, _, i + 1, .sr h => h.at (i := i)
theorem Sub.len {E E' : Type} {f : E → E'} {L : List (Sl E)} {L' : List (Sl E')} (h : Sub f L L') : L.length = L'.length := by
  induction h with
  | nil => rfl
  | any _ _ ih => simp [ih]
  | im _ _ ih => simp [ih]
  | ow _ _ ih => simp [ih]
  | fr _ _ ih => simp [ih]
  | ox _ _ ih => simp [ih]
  | sr _ ih => simp [ih]
/-- which slots own behind it -/
def keepO {E' : Type} : Option (Sl E') → Option Addr → Option Addr
  | some (.ow _ _), a => a
  | some (.ox _ _), a => a
  | some .sr, a => a
  | _, _ => none
theorem keepO_some {E' : Type} {s : Option (Sl E')} {o : Option Addr} {a : Addr} (h : keepO s o = some a) : o = some a := by
  unfold keepO at h
  split at h
  · exact h
  · exact h
  · exact h
  · cases h
section
variable {E E' : Type} {K : PySem.W.Frag} {c : Bc} {L : List (Sl E)} {L' : List (Sl E')} {σ : L2.St} {H : Hp} {e : E} {own : Own} {f : E → E'}
theorem St.sub (s : St K c L σ H e own) (h : Sub f L L') : St K c L' σ H (f e) (fun i => keepO L'[i]? (own i)) := by
  have less : ∀ a, Wb c (fun i => keepO L'[i]? (own i)) a → Wb c own a := fun a z => z.imp id fun ⟨i, q⟩ => ⟨i, keepO_some q⟩
  refine ⟨s.len.trans h.len, s.stay, s.dom, s.bw, fun a hb => ?_, fun i j a h1 h2 => s.inj i j a (keepO_some h1) (keepO_some h2), fun i hi => ?_, fun i sl hL => ?_⟩
  · obtain ⟨i, h1, h2⟩ := s.bs a hb
    rcases h.at (i := i) with ⟨z, _⟩ | ⟨s1, s2, z1, z2, z3⟩
    · rw [h1] at z
      cases z
    · rw [h1] at z1
      cases z1
      cases z3 with
      | any n _ => cases n
      | sr _ => exact ⟨i, z2, by show keepO L'[i]? (own i) = _; rw [z2]; exact h2⟩
  · rw [hi]
    rfl
  · rcases h.at (i := i) with ⟨_, z⟩ | ⟨s1, s2, z1, z2, z3⟩
    · rw [hL] at z
      cases z
    · rw [hL] at z2
      cases z2
      have q := s.slot i s1 z1
      show SlOk K c _ H (f e) sl σ[i]? (keepO L'[i]? (own i))
      rw [hL]
      cases z3 with
      | any n _ => exact rfl
      | im n _ =>
        obtain ⟨h1, v, h2, h3⟩ := q
        exact ⟨rfl, v, h2, by rw [n]; exact Rp.mono _ (Ge.less less) h3⟩
      | ow n _ =>
        obtain ⟨a, vs, h1, h2, h3, h4, h5⟩ := q
        exact ⟨a, vs, h1, h2, h3, h4, by rw [n]; exact Rp.pmono _ (Ge.less less) h5⟩
      | ox n _ =>
        obtain ⟨a, o, h1, h2, h3, h4, h5⟩ := q
        exact ⟨a, o, h1, h2, h3, h4, by rw [n]; exact Ro.mono _ (Ge.less less) h5⟩
      | fr n _ =>
        obtain ⟨a, vs, h1, h2, h3, h4, h5⟩ := q
        refine ⟨rfl, .ref a, h2, a, vs, rfl, ?_, h4, by rw [n]; exact Rp.pmono _ (Ge.less less) h5⟩
        rintro (z | ⟨j, z⟩)
        · exact h3.2 z
        · have := s.inj i j a h1 (keepO_some z)
          subst this
          have z2 : keepO L'[i]? (own i) = some a := z
          rw [hL] at z2
          cases z2
      | sr _ => exact q
theorem Ex.sub {own : Own} {H' : Hp} (h : Sub f L L') (x : Ex L' (fun i => keepO L'[i]? (own i)) H H') : Ex L own H H' := by
  have e : ∀ a, Sr L own a ↔ Sr L' (fun i => keepO L'[i]? (own i)) a := fun a => by
    constructor
    · rintro ⟨i, h1, h2⟩
      rcases h.at (i := i) with ⟨z, _⟩ | ⟨s1, s2, z1, z2, z3⟩
      · rw [h1] at z
        cases z
      · rw [h1] at z1
        cases z1
        cases z3 with
        | any n _ => cases n
        | sr _ => exact ⟨i, z2, by show keepO L'[i]? (own i) = _; rw [z2]; exact h2⟩
    · rintro ⟨i, h1, h2⟩
      rcases h.at (i := i) with ⟨_, z⟩ | ⟨s1, s2, z1, z2, z3⟩
      · rw [h1] at z
        cases z
      · rw [h1] at z2
        cases z2
        cases z3 with
        | sr _ => exact ⟨i, z1, keepO_some h2⟩
  exact ⟨fun a o n q => x.st a o (fun z => n ((e a).mpr z)) q, fun a z => x.sr a ((e a).mp z)⟩
end
/-- own lists are read: seen as lists that stay -/
theorem tx_view {E α : Type} {ι : Type} {X : ι → Cx} {K : PySem.W.Frag} {L L2 : List (Sl E)} {S : Rp α} {e : Expr} {w : E → (α → Prop) → Prop} (hf : Flat S) (h : Sub id L L2) (ht : TX X K L2 S e w) : TX X K L S e w := by
  obtain ⟨t, p, f⟩ := ht.ex
  exact ⟨ht.mono, t, p, fun c σ H env own Q s hw => f c σ H env _ Q (s.sub h) (ht.mono _ _ _ (fun x k v H' x' r => k v H' (Ex.sub h x') (hf r)) hw)⟩
theorem tt_view {E : Type} {ι : Type} {X : ι → Cx} {K : PySem.W.Frag} {L L2 : List (Sl E)} {e : Expr} {w : E → (Bool → Prop) → Prop} (h : Sub id L L2) (ht : TT X K L2 e w) : TT X K L e w := by
  obtain ⟨t, p, f⟩ := ht.ex
  exact ⟨ht.mono, t, p, fun c σ H env own Q s hw => f c σ H env _ Q (s.sub h) (ht.mono _ _ _ (fun x k H' x' => k H' (Ex.sub h x')) hw)⟩
theorem tn_view {E α : Type} {ι : Type} {X : ι → Cx} {K : PySem.W.Frag} {L L2 : List (Sl E)} {S : Rp α} {e : Expr} {w : E → (List α → Prop) → Prop} (hf : Flat S) (h : Sub id L L2) (ht : TN X K L2 S e w) : TN X K L S e w := by
  obtain ⟨t, p, f⟩ := ht.ex
  exact ⟨ht.mono, t, p, fun c σ H env own Q s hw => f c σ H env _ Q (s.sub h) (ht.mono _ _ _ (fun x k l vs H' n x' e r => k l vs H' n (Ex.sub h x') e (hf.p r)) hw)⟩
end Tx

/-! statements, loops, comprehensions, a def's body -/
namespace Tx
open PySem PySem.Spec PyProof.Rows L2 Gx

def Sl.fst {E α : Type} : Sl E → Sl (E × α)
  | .any => .any
  | .im S g => .im S fun e => g e.1
  | .ow S g => .ow S fun e => g e.1
  | .ox R g => .ox R fun e => g e.1
  | .sr => .sr
theorem Sl.fst_sr {E α : Type} {s : Sl E} : (s.fst : Sl (E × α)) = .sr ↔ s = .sr := by cases s <;> simp [Sl.fst]
def lift {E : Type} (α : Type) (L : List (Sl E)) : List (Sl (E × α)) := L.map Sl.fst
def putO (own : Own) (i : Nat) (o : Option Addr) : Own := fun j => if j = i then o else own j
theorem putO_self {own : Own} {i : Nat} {o : Option Addr} : putO own i o i = o := if_pos rfl
theorem putO_ne {own : Own} {i j : Nat} {o : Option Addr} (h : j ≠ i) : putO own i o j = own j := if_neg h
section
variable {E α ρ : Type} {K : PySem.W.Frag} {c c' : Bc} {L : List (Sl E)} {σ : L2.St} {H H' : Hp} {e : E} {own : Own}
theorem lift_at {i : Nat} {s' : Sl (E × α)} (h : (lift α L)[i]? = some s') : ∃ s, L[i]? = some s ∧ s' = s.fst := by
  unfold lift at h
  rw [List.getElem?_map] at h
  obtain ⟨s, h1, h2⟩ := Option.map_eq_some_iff.mp h
  exact ⟨s, h1, h2.symm⟩
theorem lift_of {i : Nat} {s : Sl E} (h : L[i]? = some s) : (lift α L)[i]? = some s.fst := by
  unfold lift
  rw [List.getElem?_map, h]
  rfl
theorem Sr.lift {a : Addr} : Sr (Tx.lift α L) own a ↔ Sr L own a := by
  constructor
  · rintro ⟨i, h1, h2⟩
    obtain ⟨s, h3, h4⟩ := lift_at h1
    exact ⟨i, by rw [h3, Sl.fst_sr.mp h4.symm], h2⟩
  · rintro ⟨i, h1, h2⟩
    exact ⟨i, lift_of h1, h2⟩
theorem Ex.unlift (x : Ex (lift α L) own H H') : Ex L own H H' := ⟨fun a o n => x.st a o fun z => n (Sr.lift.mp z), fun a z => x.sr a (Sr.lift.mpr z)⟩
theorem St.lift (s : St K c L σ H e own) (x : α) : St K c (lift α L) σ H (e, x) own := by
  refine ⟨by rw [s.len]; simp [Tx.lift], s.stay, s.dom, s.bw, fun a h => ?_, s.inj, fun i h => s.out i ?_, fun i sl h => ?_⟩
  · obtain ⟨i, h1, h2⟩ := s.bs a h
    exact ⟨i, lift_of h1, h2⟩
  · unfold Tx.lift at h
    rw [List.getElem?_map] at h
    simpa using h
  · obtain ⟨s0, h1, rfl⟩ := lift_at h
    have q := s.slot i s0 h1
    cases s0 <;> exact q
/-- a name is bound to a value that stays -/
theorem St.setI (s : St K c L σ H e own) {i : Nat} (hi : ∃ s0, L[i]? = some s0 ∧ s0 ≠ .sr) (S : Rp α) (g : E → α) {v : V} (r : S.r K (Wb c own) H v (g e)) : St K c (L.set i (.im S g)) (σ.set i (some v)) H e (putO own i none) := by
  obtain ⟨s0, hi0, ns⟩ := hi
  have il : i < L.length := (List.getElem?_eq_some_iff.mp hi0).1
  have less : ∀ a, Wb c (putO own i none) a → Wb c own a := fun a z => z.imp id fun ⟨j, q⟩ => by
    by_cases h : j = i
    · subst h
      rw [putO_self] at q
      cases q
    · rw [putO_ne h] at q
      exact ⟨j, q⟩
  have old : ∀ j a, putO own i none j = some a → j ≠ i ∧ own j = some a := fun j a q => by
    by_cases h : j = i
    · subst h
      rw [putO_self] at q
      cases q
    · rw [putO_ne h] at q
      exact ⟨h, q⟩
  refine ⟨by simp [s.len], s.stay, s.dom, s.bw, fun a hb => ?_, fun j k a h1 h2 => s.inj j k a (old j a h1).2 (old k a h2).2, fun j hj => ?_, fun j sl hL => ?_⟩
  · obtain ⟨j, h1, h2⟩ := s.bs a hb
    have ne : j ≠ i := fun z => by
      subst z
      rw [hi0] at h1
      exact ns (Option.some.inj h1)
    exact ⟨j, by rw [List.getElem?_set_ne (Ne.symm ne)]; exact h1, by rw [putO_ne ne]; exact h2⟩
  · have ne : j ≠ i := fun z => by
      subst z
      rw [List.getElem?_eq_none_iff, List.length_set] at hj
      omega
    rw [putO_ne ne]
    refine s.out j ?_
    rwa [List.getElem?_set_ne (Ne.symm ne)] at hj
  · by_cases h : j = i
    · subst h
      rw [List.getElem?_set_self il] at hL
      cases hL
      exact ⟨putO_self, v, by rw [List.getElem?_set_self (by rw [s.len]; exact il)], S.mono (Ge.less less) r⟩
    · rw [List.getElem?_set_ne (Ne.symm h)] at hL
      have q := s.slot j sl hL
      rw [List.getElem?_set_ne (Ne.symm h), putO_ne h]
      cases sl with
      | any => exact q
      | im S' g' =>
        obtain ⟨h1, v', h2, h3⟩ := q
        exact ⟨h1, v', h2, S'.mono (Ge.less less) h3⟩
      | ow S' g' =>
        obtain ⟨a, vs, h1, h2, h3, h4, h5⟩ := q
        exact ⟨a, vs, h1, h2, h3, h4, S'.pmono (Ge.less less) h5⟩
      | ox R' g' =>
        obtain ⟨a, o, h1, h2, h3, h4, h5⟩ := q
        exact ⟨a, o, h1, h2, h3, h4, R'.mono (Ge.less less) h5⟩
      | sr => exact q
theorem St.fresh0 (s : St K c L σ H e own) {l : Addr} (h : H l = none) : c.H0 l = none ∧ ¬ c.B l := by
  have nb : ¬ c.B l := fun z => by
    obtain ⟨i, h1, h2⟩ := s.bs l z
    obtain ⟨o, ho⟩ := (s.has h2).some
    rw [h] at ho
    cases ho
  refine ⟨?_, nb⟩
  rcases q : c.H0 l with _ | o
  · rfl
  · rw [s.stay l o nb q] at h
    cases h
/-- a name is bound to a new list -/
theorem St.setO (s : St K c L σ H e own) (x : Ex L own H H') {i : Nat} (hi : ∃ s0, L[i]? = some s0 ∧ s0 ≠ .sr) (S : Rp α) (g : E → List α) {l : Addr} {vs : List V} (n : H l = none) (hl : H' l = some (.lst vs)) (r : Paired (S.r K (fun a => Wb c own a ∨ a = l) H') vs (g e)) :
    St K c (L.set i (.ow S g)) (σ.set i (some (.ref l))) H' e (putO own i (some l)) := by
  obtain ⟨s0, hi0, ns⟩ := hi
  have il : i < L.length := (List.getElem?_eq_some_iff.mp hi0).1
  have s' := s.ex x
  have nl : ∀ j, own j ≠ some l := fun j q => by
    obtain ⟨o, ho⟩ := (s.has q).some
    rw [n] at ho
    cases ho
  have less : ∀ a, Wb c (putO own i (some l)) a → Wb c own a ∨ a = l := fun a z => by
    rcases z with z | ⟨j, q⟩
    · exact .inl (.inl z)
    · by_cases h : j = i
      · subst h
        rw [putO_self] at q
        exact .inr (Option.some.inj q).symm
      · rw [putO_ne h] at q
        exact .inl (.inr ⟨j, q⟩)
  have ge : Ge (Wb c own) H (Wb c (putO own i (some l))) H' := fun a o na ha => by
    refine ⟨fun z => ?_, (x.ge (c := c) a o na ha).2⟩
    rcases less a z with z | z
    · exact na z
    · rw [z, n] at ha
      cases ha
  refine ⟨by simp [s.len], s'.stay, s'.dom, s.bw, fun a hb => ?_, fun j k a h1 h2 => ?_, fun j hj => ?_, fun j sl hL => ?_⟩
  · obtain ⟨j, h1, h2⟩ := s.bs a hb
    have ne : j ≠ i := fun z => by
      subst z
      rw [hi0] at h1
      exact ns (Option.some.inj h1)
    exact ⟨j, by rw [List.getElem?_set_ne (Ne.symm ne)]; exact h1, by rw [putO_ne ne]; exact h2⟩
  · by_cases hj : j = i
    · by_cases hk : k = i
      · rw [hj, hk]
      · subst hj
        rw [putO_self] at h1
        rw [putO_ne hk] at h2
        cases h1
        exact absurd h2 (nl k)
    · by_cases hk : k = i
      · subst hk
        rw [putO_self] at h2
        rw [putO_ne hj] at h1
        cases h2
        exact absurd h1 (nl j)
      · rw [putO_ne hj] at h1
        rw [putO_ne hk] at h2
        exact s.inj j k a h1 h2
  · have ne : j ≠ i := fun z => by
      subst z
      rw [List.getElem?_eq_none_iff, List.length_set] at hj
      omega
    rw [putO_ne ne]
    refine s.out j ?_
    rwa [List.getElem?_set_ne (Ne.symm ne)] at hj
  · by_cases h : j = i
    · subst h
      rw [List.getElem?_set_self il] at hL
      cases hL
      exact ⟨l, vs, putO_self, by rw [List.getElem?_set_self (by rw [s.len]; exact il)], ⟨(s.fresh0 n).1, fun z => s.fresh n (.inl z)⟩, hl, S.pmono (Ge.less less) r⟩
    · rw [List.getElem?_set_ne (Ne.symm h)] at hL
      have q := s.slot j sl hL
      have q' := s'.slot j sl hL
      rw [List.getElem?_set_ne (Ne.symm h), putO_ne h]
      cases sl with
      | any => exact q
      | im S' g' =>
        obtain ⟨h1, v', h2, h3⟩ := q
        exact ⟨h1, v', h2, S'.mono ge h3⟩
      | ow S' g' =>
        obtain ⟨a, us, h1, h2, h3, h4, h5⟩ := q
        obtain ⟨a', us', h1', _, _, h4', _⟩ := q'
        rw [h1] at h1'
        cases h1'
        refine ⟨a, us, h1, h2, h3, ?_, S'.pmono ge h5⟩
        refine x.st _ _ (fun ⟨k, hk, ok⟩ => ?_) h4
        have := s.inj j k a h1 ok
        subst this
        rw [hL] at hk
        cases hk
      | ox R' g' =>
        obtain ⟨a, o, h1, h2, h3, h4, h5⟩ := q
        obtain ⟨a', o', h1', _, _, h4', _⟩ := q'
        rw [h1] at h1'
        cases h1'
        refine ⟨a, o, h1, h2, h3, ?_, R'.mono ge h5⟩
        refine x.st _ _ (fun ⟨k, hk, ok⟩ => ?_) h4
        have := s.inj j k a h1 ok
        subst this
        rw [hL] at hk
        cases hk
      | sr => exact q'
/-- a name is bound to a new object of one's own kind -/
theorem St.setX (s : St K c L σ H e own) (x : Ex L own H H') {i : Nat} (hi : ∃ s0, L[i]? = some s0 ∧ s0 ≠ .sr) {β : Type} (R : Ro β) (g : E → β) {l : Addr} {o : HO} (n : H l = none) (hl : H' l = some o) (r : R.r K (fun a => Wb c own a ∨ a = l) H' l o (g e)) :
    St K c (L.set i (.ox R g)) (σ.set i (some (.ref l))) H' e (putO own i (some l)) := by
  obtain ⟨s0, hi0, ns⟩ := hi
  have il : i < L.length := (List.getElem?_eq_some_iff.mp hi0).1
  have s' := s.ex x
  have nl : ∀ j, own j ≠ some l := fun j q => by
    obtain ⟨u, ho⟩ := (s.has q).some
    rw [n] at ho
    cases ho
  have less : ∀ a, Wb c (putO own i (some l)) a → Wb c own a ∨ a = l := fun a z => by
    rcases z with z | ⟨j, q⟩
    · exact .inl (.inl z)
    · by_cases h : j = i
      · subst h
        rw [putO_self] at q
        exact .inr (Option.some.inj q).symm
      · rw [putO_ne h] at q
        exact .inl (.inr ⟨j, q⟩)
  have ge : Ge (Wb c own) H (Wb c (putO own i (some l))) H' := fun a o na ha => by
    refine ⟨fun z => ?_, (x.ge (c := c) a o na ha).2⟩
    rcases less a z with z | z
    · exact na z
    · rw [z, n] at ha
      cases ha
  refine ⟨by simp [s.len], s'.stay, s'.dom, s.bw, fun a hb => ?_, fun j k a h1 h2 => ?_, fun j hj => ?_, fun j sl hL => ?_⟩
  · obtain ⟨j, h1, h2⟩ := s.bs a hb
    have ne : j ≠ i := fun z => by
      subst z
      rw [hi0] at h1
      exact ns (Option.some.inj h1)
    exact ⟨j, by rw [List.getElem?_set_ne (Ne.symm ne)]; exact h1, by rw [putO_ne ne]; exact h2⟩
  · by_cases hj : j = i
    · by_cases hk : k = i
      · rw [hj, hk]
      · subst hj
        rw [putO_self] at h1
        rw [putO_ne hk] at h2
        cases h1
        exact absurd h2 (nl k)
    · by_cases hk : k = i
      · subst hk
        rw [putO_self] at h2
        rw [putO_ne hj] at h1
        cases h2
        exact absurd h1 (nl j)
      · rw [putO_ne hj] at h1
        rw [putO_ne hk] at h2
        exact s.inj j k a h1 h2
  · have ne : j ≠ i := fun z => by
      subst z
      rw [List.getElem?_eq_none_iff, List.length_set] at hj
      omega
    rw [putO_ne ne]
    refine s.out j ?_
    rwa [List.getElem?_set_ne (Ne.symm ne)] at hj
  · by_cases h : j = i
    · subst h
      rw [List.getElem?_set_self il] at hL
      cases hL
      exact ⟨l, o, putO_self, by rw [List.getElem?_set_self (by rw [s.len]; exact il)], ⟨(s.fresh0 n).1, fun z => s.fresh n (.inl z)⟩, hl, R.mono (Ge.less less) r⟩
    · rw [List.getElem?_set_ne (Ne.symm h)] at hL
      have q := s.slot j sl hL
      have q' := s'.slot j sl hL
      rw [List.getElem?_set_ne (Ne.symm h), putO_ne h]
      cases sl with
      | any => exact q
      | im S' g' =>
        obtain ⟨h1, v', h2, h3⟩ := q
        exact ⟨h1, v', h2, S'.mono ge h3⟩
      | ow S' g' =>
        obtain ⟨a, us, h1, h2, h3, h4, h5⟩ := q
        obtain ⟨a', us', h1', _, _, h4', _⟩ := q'
        rw [h1] at h1'
        cases h1'
        refine ⟨a, us, h1, h2, h3, ?_, S'.pmono ge h5⟩
        refine x.st _ _ (fun ⟨k, hk, ok⟩ => ?_) h4
        have := s.inj j k a h1 ok
        subst this
        rw [hL] at hk
        cases hk
      | ox R' g' =>
        obtain ⟨a, o, h1, h2, h3, h4, h5⟩ := q
        obtain ⟨a', o', h1', _, _, h4', _⟩ := q'
        rw [h1] at h1'
        cases h1'
        refine ⟨a, o, h1, h2, h3, ?_, R'.mono ge h5⟩
        refine x.st _ _ (fun ⟨k, hk, ok⟩ => ?_) h4
        have := s.inj j k a h1 ok
        subst this
        rw [hL] at hk
        cases hk
      | sr => exact q'
/-- an own list is written -/
theorem St.putL (s : St K c L σ H e own) {i : Nat} {S : Rp α} {g : E → List α} (hL : L[i]? = some (.ow S g)) {a : Addr} (ho : own i = some a) {vs : List V} {xs : List α} (r : Paired (S.r K (Wb c own) H) vs xs) :
    St K c ((Tx.lift (List α) L).set i (.ow S Prod.snd)) σ (upd H a (.lst vs)) (e, xs) own := by
  have sl := s.lift xs
  have il : i < (Tx.lift (List α) L).length := by simp [Tx.lift]; exact (List.getElem?_eq_some_iff.mp hL).1
  obtain ⟨a0, us, h1, h2, h3, h4, h5⟩ := s.slot i _ hL
  rw [ho] at h1
  cases h1
  have wa : Wb c own a := .inr ⟨i, ho⟩
  have ge : Ge (Wb c own) H (Wb c own) (upd H a (.lst vs)) := fun b o nb hb => ⟨nb, by rw [upd_ne (fun z => nb (by rw [z]; exact wa))]; exact hb⟩
  refine ⟨by simp [sl.len], fun b o nb hb => ?_, fun b hb => ?_, s.bw, fun b hb => ?_, s.inj, fun j hj => sl.out j ?_, fun j sl' hj => ?_⟩
  · rw [upd_ne (fun z => by rw [z, h3.1] at hb; cases hb)]
    exact s.stay b o nb hb
  · by_cases z : b = a
    · exact .lst (by rw [z]; exact upd_same)
    · rw [upd_ne z]
      exact s.dom b hb
  · obtain ⟨j, q1, q2⟩ := sl.bs b hb
    have ne : j ≠ i := fun z => by
      subst z
      obtain ⟨s0, q3, q4⟩ := lift_at q1
      rw [hL] at q3
      cases q3
      cases q4
    exact ⟨j, by rw [List.getElem?_set_ne (Ne.symm ne)]; exact q1, q2⟩
  · have ne : j ≠ i := fun z => by
      subst z
      rw [List.getElem?_eq_none_iff, List.length_set] at hj
      omega
    rwa [List.getElem?_set_ne (Ne.symm ne)] at hj
  · by_cases h : j = i
    · subst h
      rw [List.getElem?_set_self il] at hj
      cases hj
      exact ⟨a, vs, ho, h2, h3, upd_same, S.pmono ge r⟩
    · rw [List.getElem?_set_ne (Ne.symm h)] at hj
      have q := sl.slot j sl' hj
      cases sl' with
      | any => exact q
      | im S' g' =>
        obtain ⟨q1, v', q2, q3⟩ := q
        exact ⟨q1, v', q2, S'.mono ge q3⟩
      | ow S' g' =>
        obtain ⟨b, ws, q1, q2, q3, q4, q5⟩ := q
        exact ⟨b, ws, q1, q2, q3, by rw [upd_ne (fun z => h (s.inj j i a (by rw [← z]; exact q1) ho))]; exact q4, S'.pmono ge q5⟩
      | ox R' g' =>
        obtain ⟨b, ws, q1, q2, q3, q4, q5⟩ := q
        exact ⟨b, ws, q1, q2, q3, by rw [upd_ne (fun z => h (s.inj j i a (by rw [← z]; exact q1) ho))]; exact q4, R'.mono ge q5⟩
      | sr =>
        obtain ⟨p, q1, q2, q3, x, y, q4, q5⟩ := q
        exact ⟨p, q1, q2, q3, x, y, by rw [upd_ne (fun z => h (s.inj j i a (by rw [← z]; exact q1) ho))]; exact q4, q5⟩
/-- an own object of another kind is written -/
theorem St.putX (s : St K c L σ H e own) {i : Nat} {β : Type} {R : Ro β} {g : E → β} (hL : L[i]? = some (.ox R g)) {a : Addr} (ho : own i = some a) {o : HO} {x : β} (r : R.r K (Wb c own) H a o x) :
    St K c ((Tx.lift β L).set i (.ox R Prod.snd)) σ (upd H a o) (e, x) own := by
  have sl := s.lift x
  have il : i < (Tx.lift β L).length := by simp [Tx.lift]; exact (List.getElem?_eq_some_iff.mp hL).1
  obtain ⟨a0, us, h1, h2, h3, h4, h5⟩ := s.slot i _ hL
  rw [ho] at h1
  cases h1
  have wa : Wb c own a := .inr ⟨i, ho⟩
  have ge : Ge (Wb c own) H (Wb c own) (upd H a o) := fun b u nb hb => ⟨nb, by rw [upd_ne (fun z => nb (by rw [z]; exact wa))]; exact hb⟩
  refine ⟨by simp [sl.len], fun b u nb hb => ?_, fun b hb => ?_, s.bw, fun b hb => ?_, s.inj, fun j hj => sl.out j ?_, fun j sl' hj => ?_⟩
  · rw [upd_ne (fun z => by rw [z, h3.1] at hb; cases hb)]
    exact s.stay b u nb hb
  · by_cases z : b = a
    · exact z ▸ (show OwO (upd H b o b) from by exact .inr ⟨_, upd_same, R.ext r⟩)
    · rw [upd_ne z]
      exact s.dom b hb
  · obtain ⟨j, q1, q2⟩ := sl.bs b hb
    have ne : j ≠ i := fun z => by
      subst z
      obtain ⟨s0, q3, q4⟩ := lift_at q1
      rw [hL] at q3
      cases q3
      cases q4
    exact ⟨j, by rw [List.getElem?_set_ne (Ne.symm ne)]; exact q1, q2⟩
  · have ne : j ≠ i := fun z => by
      subst z
      rw [List.getElem?_eq_none_iff, List.length_set] at hj
      omega
    rwa [List.getElem?_set_ne (Ne.symm ne)] at hj
  · by_cases h : j = i
    · subst h
      rw [List.getElem?_set_self il] at hj
      cases hj
      exact ⟨a, o, ho, h2, h3, upd_same, R.mono ge r⟩
    · rw [List.getElem?_set_ne (Ne.symm h)] at hj
      have q := sl.slot j sl' hj
      cases sl' with
      | any => exact q
      | im S' g' =>
        obtain ⟨q1, v', q2, q3⟩ := q
        exact ⟨q1, v', q2, S'.mono ge q3⟩
      | ow S' g' =>
        obtain ⟨b, ws, q1, q2, q3, q4, q5⟩ := q
        exact ⟨b, ws, q1, q2, q3, by rw [upd_ne (fun z => h (s.inj j i a (by rw [← z]; exact q1) ho))]; exact q4, S'.pmono ge q5⟩
      | ox R' g' =>
        obtain ⟨b, ws, q1, q2, q3, q4, q5⟩ := q
        exact ⟨b, ws, q1, q2, q3, by rw [upd_ne (fun z => h (s.inj j i a (by rw [← z]; exact q1) ho))]; exact q4, R'.mono ge q5⟩
      | sr =>
        obtain ⟨p, q1, q2, q3, x, y, q4, q5⟩ := q
        exact ⟨p, q1, q2, q3, x, y, by rw [upd_ne (fun z => h (s.inj j i a (by rw [← z]; exact q1) ho))]; exact q4, q5⟩
end

/-! ### blocks -/
section
variable {E α β ρ : Type} {ι : Type} {X : ι → Cx} {K : PySem.W.Frag} {R : RetR ρ} {L L1 L2' L' : List (Sl E)} {S : Rp α} {T : Rp β} {s : Stmt} {ss : List Stmt} {e : Expr} {pos : Pos} {w w1 w2 : E → Kn E ρ → Prop}
theorem ts_nil : TS X K R L L [] (fun e k => k.nx e) := ⟨fun e k k' h _ hw => h _ hw, _, fun _ => pss_nil, fun c σ H env own D s hw => hw σ H own s⟩
theorem ts_one (h : TS1 X K R L L' s w) : TS X K R L L' [s] w := by
  obtain ⟨t, p, f⟩ := h.ex
  exact ⟨h.mono, t, fun i => pss_one (p i), f⟩
theorem ts_cons (h : TS1 X K R L L1 s w1) (h2 : TS X K R L1 L' ss w2) : TS X K R L L' (s :: ss) (fun e k => w1 e ⟨fun e' => w2 e' k, k.rt⟩) := by
  obtain ⟨t1, p1, f1⟩ := h.ex
  obtain ⟨t2, p2, f2⟩ := h2.ex
  refine ⟨fun e k k' hn hr hw => h.mono e ⟨fun e' => w2 e' k, k.rt⟩ ⟨fun e' => w2 e' k', k'.rt⟩ (fun x hx => h2.mono _ _ _ hn hr hx) hr hw, _, fun i => pss_cons (p1 i) (p2 i), fun c σ H env own D s hw => ?_⟩
  refine f1 c σ H env own _ s (h.mono env ⟨fun e' => w2 e' (kon K R L' c D), (kon K R L' c D).rt⟩ _ (fun x hx σ' H' own' s' => ?_) (fun r hr => hr) hw)
  exact f2 c σ' H' x own' D s' hx
/-- .. with less known at the end -/
theorem TS.sub {L2 : List (Sl E)} (h : TS X K R L L1 ss w) (hs : Sub id L1 L2) : TS X K R L L2 ss w := by
  obtain ⟨t, p, f⟩ := h.ex
  exact ⟨h.mono, t, p, fun c σ H env own D s hw => f c σ H env own D s (h.mono env (kon K R L2 c D) (kon K R L1 c D) (fun x hx σ' H' own' s' => hx σ' H' _ (s'.sub hs)) (fun r hr => hr) hw)⟩
theorem TS1.sub {L2 : List (Sl E)} (h : TS1 X K R L L1 s w) (hs : Sub id L1 L2) : TS1 X K R L L2 s w := by
  obtain ⟨t, p, f⟩ := h.ex
  exact ⟨h.mono, t, p, fun c σ H env own D s hw => f c σ H env own D s (h.mono env (kon K R L2 c D) (kon K R L1 c D) (fun x hx σ' H' own' s' => hx σ' H' _ (s'.sub hs)) (fun r hr => hr) hw)⟩
/-- .. at the start -/
theorem TS.pre {L0 : List (Sl E)} (hs : Sub id L0 L) (h : TS X K R L L1 ss w) : TS X K R L0 L1 ss w := by
  obtain ⟨t, p, f⟩ := h.ex
  exact ⟨h.mono, t, p, fun c σ H env own D s hw => f c σ H env _ D (s.sub hs) hw⟩
theorem ts_ret {we : E → (α → Prop) → Prop} (h : TX X K L S e we) : TS1 X K (retI S) L L' (.Return (some e) pos) (fun env k => we env k.rt) := by
  obtain ⟨t, p, f⟩ := h.ex
  refine ⟨fun e k k' _ hr hw => h.mono _ _ _ hr hw, _, fun i => ps_ret (p i), fun c σ H env own D s hw => f c σ H env own _ s (h.mono _ _ _ (fun x hx v H' x' r => ?_) hw)⟩
  have s' := s.ex x'
  refine hx v H' ⟨⟨s'.stay, fun a hb => ?_⟩, S.mono (Ge.less fun a z => .inl z) r⟩
  obtain ⟨i, h1, h2⟩ := s.bs a hb
  exact x'.sr a ⟨i, h1, h2⟩
theorem ts_retN {we : E → (List α → Prop) → Prop} (h : TN X K L S e we) : TS1 X K (retN S) L L' (.Return (some e) pos) (fun env k => we env k.rt) := by
  obtain ⟨t, p, f⟩ := h.ex
  refine ⟨fun e k k' _ hr hw => h.mono _ _ _ hr hw, _, fun i => ps_ret (p i), fun c σ H env own D s hw => f c σ H env own _ s (h.mono _ _ _ (fun x hx l vs H' n x' e' r => ?_) hw)⟩
  have s' := s.ex x'
  refine hx (.ref l) H' ⟨⟨s'.stay, fun a hb => ?_⟩, l, vs, rfl, (s.fresh0 n).1, (s.fresh0 n).2, e', S.pmono (Ge.less fun a z => z.imp .inl id) r⟩
  obtain ⟨i, h1, h2⟩ := s.bs a hb
  exact x'.sr a ⟨i, h1, h2⟩
/-- return an own list -/
theorem ts_retO {g : E → List α} {i : Nat} {x : Str} {p : Pos} (hL : L[i]? = some (.ow S g)) (hN : ∀ j, (X j).N[i]? = some x) (hv : ∀ j, Vis (X j).env.scope x) (hd : (x == ("__debug__" : Str)) = false := by decide) (hcd : (x == ("__classdict__" : Str)) = false := by decide) :
    TS1 X K (retN S) L L' (.Return (some (.Name x p)) pos) (fun env k => k.rt (g env)) := by
  refine ⟨fun e k k' _ hr hw => hr _ hw, _, fun j => ps_ret (pe_var (hN j) (hv j) hd hcd), fun c σ H env own D s hw => ?_⟩
  obtain ⟨a, vs, h1, h2, h3, h4, h5⟩ := s.slot i _ hL
  refine ⟨.ref a, h2, hw (.ref a) H ⟨⟨s.stay, fun b hb => ?_⟩, a, vs, rfl, h3.1, fun z => ?_, h4, S.pmono (Ge.less fun b z => ?_) h5⟩⟩
  · obtain ⟨j, q1, q2⟩ := s.bs b hb
    exact s.sr ⟨j, q1, q2⟩
  · obtain ⟨j, q1, q2⟩ := s.bs a z
    have := s.inj i j a h1 q2
    subst this
    rw [hL] at q1
    cases q1
  · rcases z with z | z
    · exact .inl z
    · exact .inr ⟨i, by rw [z]; exact h1⟩
theorem ts_retNone : TS1 X K (retI nonR) L L' (.Return none pos) (fun env k => k.rt ()) := by
  refine ⟨fun e k k' _ hr hw => hr _ hw, _, fun _ => ps_retN, fun c σ H env own D s hw => hw .non H ⟨⟨s.stay, fun b hb => ?_⟩, rfl⟩⟩
  obtain ⟨j, q1, q2⟩ := s.bs b hb
  exact s.sr ⟨j, q1, q2⟩
theorem ts_expr {we : E → (α → Prop) → Prop} (h : TX X K L S e we) (hs : ∀ i, swapsWith e none pos.line (X i).env = pure false := by intro _; rfl) : TS1 X K R L L (.Expr e pos) (fun env k => we env fun _ => k.nx env) := by
  obtain ⟨t, p, f⟩ := h.ex
  refine ⟨fun e k k' hn _ hw => h.mono _ _ _ (fun _ hx => hn _ hx) hw, _, fun i => ps_expr (p i) (hs i), fun c σ H env own D s hw => f c σ H env own _ s (h.mono _ _ _ (fun x hx v H' x' r => hx σ H' own (s.ex x')) hw)⟩
/-- x = e -/
theorem ts_set {we : E → (α → Prop) → Prop} {i : Nat} {x : Str} {pos' : Pos} {set : E → α → E} (hN : ∀ j, (X j).N.Nodup) (hi : ∀ j, (X j).N[i]? = some x) (hx : ∀ j, Loc (X j).env.scope x) (h : TX X K L S e we) (hl : ∃ s0, (lift α L)[i]? = some s0 ∧ s0 ≠ .sr) (hsub : Sub (fun e : E × α => set e.1 e.2) ((lift α L).set i (.im S Prod.snd)) L')
    (hs : ∀ j, swapsWith e (some (.Name x pos')) pos.line (X j).env = pure false := by intro _; rfl) (hf : ∀ j, (X j).fn x = true ∨ (X j).env.scope.names.lookup x = some .local := by intro _; first | exact .inl rfl | exact .inr rfl | assumption) : TS1 X K R L L' (.Assign [.Name x pos'] e pos) (fun env k => we env fun y => k.nx (set env y)) := by
  obtain ⟨t, p, f⟩ := h.ex
  refine ⟨fun e k k' hn _ hw => h.mono _ _ _ (fun _ hx => hn _ hx) hw, _, fun j => ps_set (hN j) (hi j) (hx j) (p j) (hs j) (hf j), fun c σ H env own D s hw => f c σ H env own _ s (h.mono _ _ _ (fun y hy v H' x' r => ?_) hw)⟩
  exact hy _ H' _ ((((s.ex x').lift y).setI hl S Prod.snd r).sub hsub)
theorem ts_own {we : E → (List α → Prop) → Prop} {i : Nat} {x : Str} {pos' : Pos} {set : E → List α → E} (hN : ∀ j, (X j).N.Nodup) (hi : ∀ j, (X j).N[i]? = some x) (hx : ∀ j, Loc (X j).env.scope x) (h : TN X K L S e we) (hl : ∃ s0, (lift (List α) L)[i]? = some s0 ∧ s0 ≠ .sr) (hsub : Sub (fun e : E × List α => set e.1 e.2) ((lift (List α) L).set i (.ow S Prod.snd)) L')
    (hs : ∀ j, swapsWith e (some (.Name x pos')) pos.line (X j).env = pure false := by intro _; rfl) (hf : ∀ j, (X j).fn x = true ∨ (X j).env.scope.names.lookup x = some .local := by intro _; first | exact .inl rfl | exact .inr rfl | assumption) : TS1 X K R L L' (.Assign [.Name x pos'] e pos) (fun env k => we env fun y => k.nx (set env y)) := by
  obtain ⟨t, p, f⟩ := h.ex
  refine ⟨fun e k k' hn _ hw => h.mono _ _ _ (fun _ hx => hn _ hx) hw, _, fun j => ps_set (hN j) (hi j) (hx j) (p j) (hs j) (hf j), fun c σ H env own D s hw => f c σ H env own _ s (h.mono _ _ _ (fun y hy l vs H' n x' e' r => ?_) hw)⟩
  refine hy _ H' _ (((s.lift y).setO ⟨fun a o na => x'.st a o fun z => na (Sr.lift.mpr z), fun a z => x'.sr a (Sr.lift.mp z)⟩ hl S Prod.snd n e' r).sub hsub)
theorem ts_if {c0 : Expr} {a b : List Stmt} {wc : E → (Bool → Prop) → Prop} (hc : TT X K L c0 wc) (ha : TS X K R L L' a w1) (hb : TS X K R L L' b w2) : TS1 X K R L L' (.If c0 a b pos) (fun env k => wc env fun x => if x = true then w1 env k else w2 env k) := by
  obtain ⟨t0, p0, f0⟩ := hc.ex
  obtain ⟨t1, p1, f1⟩ := ha.ex
  obtain ⟨t2, p2, f2⟩ := hb.ex
  refine ⟨fun e k k' hn hr hw => hc.mono _ _ _ (fun x hx => ?_) hw, _, fun i => ps_if (p0 i) (p1 i) (p2 i), fun c σ H env own D s hw => f0 c σ H env own _ s (hc.mono _ _ _ (fun x hx H' x' => ?_) hw)⟩
  · cases x
    · exact hb.mono _ _ _ hn hr hx
    · exact ha.mono _ _ _ hn hr hx
  · cases x
    · exact f2 c σ H' env own D (s.ex x') hx
    · exact f1 c σ H' env own D (s.ex x') hx
/-- xs.append(e) -/
theorem ts_append {i : Nat} {x : Str} {g : E → List α} {set : E → List α → E} {we : E → (α → Prop) → Prop} {p apos cpos : Pos} (hL : L[i]? = some (.ow S g)) (hN : ∀ j, (X j).N[i]? = some x) (hv : ∀ j, Vis (X j).env.scope x) (h : TX X K L S e we) (hsub : Sub (fun e : E × List α => set e.1 e.2) ((lift (List α) L).set i (.ow S Prod.snd)) L')
    (hline : (apos.endLine == cpos.line) = true := by rfl) (hK : ∀ j, (X j).K = K := by intro _; rfl) (hse : ∀ j, starEach [e] (X j).env = (false, eval e (X j).env) :: starEach [] (X j).env := by intro _; rfl) (hbase : ∀ j, attributeBase (.Name x p) "append" (X j).env (eval (.Name x p) (X j).env) = eval (.Name x p) (X j).env := by intro _; rfl)
    (hfew : ∀ j, ((backTo cpos (starEach [e] (X j).env)).all (fun x => !x.1) && (backToKw cpos (keywordEach [] (X j).env)).all (fun x => x.1.isSome) && decide (([e] : List Expr).length + ([] : List Keyword).length + (if ([] : List Keyword).isEmpty then 0 else 1) < 30)) = true := by intro _; rfl)
    (hs : ∀ j, swapsWith (.Call (.Attribute (.Name x p) "append" apos) [e] [] cpos) none pos.line (X j).env = pure false := by intro _; rfl) (hd : (x == ("__debug__" : Str)) = false := by decide) (hcd : (x == ("__classdict__" : Str)) = false := by decide) :
    TS1 X K R L L' (.Expr (.Call (.Attribute (.Name x p) "append" apos) [e] [] cpos) pos) (fun env k => we env fun y => (g env).length < sizeLine ∧ k.nx (set env (g env ++ [y]))) := by
  obtain ⟨t, pe, f⟩ := h.ex
  refine ⟨fun e k k' hn _ hw => h.mono _ _ _ (fun _ hx => ⟨hx.1, hn _ hx.2⟩) hw, _, fun j => by
    have z := ps_expr (pe_bm PySem.F.plainAttrs_list PySem.F.slot_list_append PySem.F.type_list_append mt_append (pe_var (hN j) (hv j) hd hcd) (pa_cons (pe j) pa_nil (hse j)) (hbase j) (hfew j) hline (hse j)) (hs j)
    rw [hK j] at z
    exact z, fun c σ H env own D s hw => ?_⟩
  obtain ⟨a, vs, h1, h2, h3, h4, h5⟩ := s.slot i _ hL
  refine ⟨.ref a, h2, .inl ⟨rfl, _, SqL.of h4⟩, f c σ H env own _ s (h.mono _ _ _ (fun y hy v H' x' r => ?_) hw)⟩
  have s' := s.ex x'
  obtain ⟨a', vs', h1', h2', h3', h4', h5'⟩ := s'.slot i _ hL
  rw [h1] at h1'
  cases h1'
  have ll : vs'.length = (g env).length := Paired.length h5'
  refine ⟨a, vs', v, rfl, rfl, h4', by rw [ll]; exact hy.1, ?_⟩
  exact hy.2 _ _ _ ((s'.putL hL h1 (xs := g env ++ [y]) (Paired.snoc h5' r)).sub hsub)
end

end Tx

/-! targets, loops, comprehensions, a def's body -/
namespace Tx
open PySem PySem.Spec PyProof.Rows L2 Gx

/-! ### the parts of a tuple -/
inductive Pt (α : Type) : Type 1 where
  | nil : Pt α
  | cons {β : Type} (S : Rp β) (f : α → β) (ps : Pt α) : Pt α
def PtOk {α : Type} (K : PySem.W.Frag) (W : WS) (H : Hp) (x : α) : Pt α → List V → Prop
  | .nil, vs => vs = []
  | .cons S f ps, vs => ∃ v us, vs = v :: us ∧ S.r K W H v (f x) ∧ PtOk K W H x ps us
theorem PtOk.mono {α : Type} {K : PySem.W.Frag} {W W' : WS} {H H' : Hp} {x : α} (g : Ge W H W' H') : ∀ {ps : Pt α} {vs : List V}, PtOk K W H x ps vs → PtOk K W' H' x ps vs := by
  intro ps
  induction ps with
  | nil => exact fun h => h
  | cons S f ps ih =>
    rintro vs ⟨v, us, e, h1, h2⟩
    exact ⟨v, us, e, S.mono g h1, ih h2⟩
def Pt.len {α : Type} : Pt α → Nat
  | .nil => 0
  | .cons _ _ ps => ps.len + 1
theorem PtOk.len {α : Type} {K : PySem.W.Frag} {W : WS} {H : Hp} {x : α} : ∀ {ps : Pt α} {vs : List V}, PtOk K W H x ps vs → vs.length = ps.len := by
  intro ps
  induction ps with
  | nil =>
    intro vs h
    rw [show vs = [] from h]
    rfl
  | cons S f ps ih =>
    rintro vs ⟨v, us, rfl, h1, h2⟩
    simp [Pt.len, ih h2]
/-- a datum that is a tuple of those parts -/
structure Unp {α : Type} (S : Rp α) (ps : Pt α) : Prop where
  at_ : ∀ {K : PySem.W.Frag} {W : WS} {H : Hp} {v : V} {x : α}, S.r K W H v x → ∃ a vs, v = .ref a ∧ TW K W H a vs ∧ PtOk K W H x ps vs
theorem unp_pr {α β : Type} {S : Rp α} {T : Rp β} : Unp (prR S T) (.cons S Prod.fst (.cons T Prod.snd .nil)) := ⟨fun ⟨a, v1, v2, e, h, p, q⟩ => ⟨a, _, e, h, v1, _, rfl, p, v2, _, rfl, q, rfl⟩⟩
theorem unp_tri {α β γ : Type} {S : Rp α} {T : Rp β} {U : Rp γ} : Unp (triR S T U) (.cons S Prod.fst (.cons T (fun x => x.2.1) (.cons U (fun x => x.2.2) .nil))) := ⟨fun ⟨a, v1, v2, v3, e, h, p, q, r⟩ => ⟨a, _, e, h, v1, _, rfl, p, v2, _, rfl, q, v3, _, rfl, r, rfl⟩⟩
theorem unp_ent : Unp entR (.cons strR Ent.name (.cons (tupR strR) Ent.wishes (.cons strR Ent.back (.cons (tupR strR) Ent.later .nil)))) := ⟨fun ⟨a, w, l, e, h, p, q⟩ => ⟨a, _, e, h, _, _, rfl, rfl, w, _, rfl, p, _, _, rfl, rfl, l, _, rfl, q, rfl⟩⟩
theorem unp_base : Unp baseR (.cons (tupR strR) Bs.things (.cons (tupR entR) Bs.ws .nil)) := ⟨fun ⟨a, t, w, e, h, p, q⟩ => ⟨a, _, e, h, t, _, rfl, p, w, _, rfl, q, rfl⟩⟩

/-! ### targets -/
/-- only the slots of is are another's -/
def Ag (is : List Nat) (σ σ' : L2.St) : Prop := ∀ vs : List Nat, (∀ i ∈ is, i ∈ vs) → wipe σ' vs = wipe σ vs
theorem wipe_at {σ : L2.St} {i : Nat} : ∀ {vs : List Nat}, (wipe σ vs)[i]? = if i ∈ vs then (σ[i]?).map (fun _ => none) else σ[i]?
  | [] => by simp [wipe]
  | v :: vs => by
    show ((wipe σ vs).set v none)[i]? = _
    by_cases h : i = v
    · subst h
      rw [if_pos List.mem_cons_self]
      by_cases l : i < σ.length
      · rw [List.getElem?_set_self (by rw [wipe_length]; exact l), List.getElem?_eq_getElem l]
        rfl
      · rw [List.getElem?_eq_none (by rw [List.length_set, wipe_length]; omega), List.getElem?_eq_none (by omega)]
        rfl
    · rw [List.getElem?_set_ne (Ne.symm h), wipe_at (vs := vs)]
      by_cases m : i ∈ vs
      · rw [if_pos m, if_pos (List.mem_cons_of_mem _ m)]
      · rw [if_neg m, if_neg (fun z => (List.mem_cons.mp z).elim h m)]
theorem Ag.refl {is : List Nat} {σ : L2.St} : Ag is σ σ := fun _ _ => rfl
theorem Ag.set {is : List Nat} {σ σ' : L2.St} {i : Nat} {v : Option V} (h : Ag is σ σ') (hi : i ∈ is) : Ag is σ (σ'.set i v) := fun vs hv => by
  rw [← h vs hv]
  apply List.ext_getElem?
  intro j
  rw [wipe_at, wipe_at]
  by_cases m : j ∈ vs
  · rw [if_pos m, if_pos m]
    by_cases z : j = i
    · subst z
      by_cases l : j < σ'.length
      · rw [List.getElem?_set_self l, List.getElem?_eq_getElem l]
        rfl
      · rw [List.getElem?_eq_none (by rw [List.length_set]; omega), List.getElem?_eq_none (by omega)]
    · rw [List.getElem?_set_ne (Ne.symm z)]
  · rw [if_neg m, if_neg m]
    rw [List.getElem?_set_ne (fun z => m (by rw [← z]; exact hv i hi))]
theorem Ag.wiped {is vs : List Nat} {σ σ' : L2.St} (h : Ag is (wipe σ vs) σ') (hv : ∀ i ∈ is, i ∈ vs) : wipe σ' vs = wipe σ vs := by
  rw [h vs hv]
  apply List.ext_getElem?
  intro j
  rw [wipe_at, wipe_at]
  by_cases m : j ∈ vs
  · rw [if_pos m, if_pos m]
    cases σ[j]? <;> rfl
  · rw [if_neg m]
theorem Sr.setI {E β : Type} {L : List (Sl E)} {own : Own} {i : Nat} (h : ∃ s0, L[i]? = some s0 ∧ s0 ≠ .sr) {S : Rp β} {g : E → β} (a : Addr) : Sr (L.set i (.im S g)) (putO own i none) a ↔ Sr L own a := by
  obtain ⟨s0, h0, n0⟩ := h
  have il := (List.getElem?_eq_some_iff.mp h0).1
  constructor
  · rintro ⟨j, h1, h2⟩
    by_cases z : j = i
    · subst z
      rw [List.getElem?_set_self il] at h1
      cases h1
    · rw [List.getElem?_set_ne (Ne.symm z)] at h1
      rw [putO_ne z] at h2
      exact ⟨j, h1, h2⟩
  · rintro ⟨j, h1, h2⟩
    have z : j ≠ i := fun z => by
      subst z
      rw [h0] at h1
      exact n0 (Option.some.inj h1)
    exact ⟨j, by rw [List.getElem?_set_ne (Ne.symm z)]; exact h1, by rw [putO_ne z]; exact h2⟩
/-- what binding leaves -/
structure Bd {E E' : Type} (is : List Nat) (L : List (Sl E)) (own : Own) (σ : L2.St) (L' : List (Sl E')) (own' : Own) (σ' : L2.St) : Prop where
  ag : Ag is σ σ'
  sr : ∀ a, Sr L' own' a ↔ Sr L own a
  so : ∀ i, i ∉ is → own' i = own i
  no : ∀ i, i ∈ is → own' i = none
/-- a value is bound to a target -/
structure TGt {E α : Type} {ι : Type} (X : ι → Cx) (K : PySem.W.Frag) (L : List (Sl E)) (S : Rp α) (tg : Expr) (is : List Nat) (L' : List (Sl (E × α))) : Prop where
  ex : ∃ g, (∀ i, PG (X i) tg g) ∧ ∀ (c : Bc) (σ : L2.St) (H : Hp) (env : E) (own : Own) (x : α) (v : V) (Q : L2.St → Hp → Prop), St K c L σ H env own → S.r K (Wb c own) H v x → (∀ σ' own', St K c L' σ' H (env, x) own' → Bd is L own σ L' own' σ' → Q σ' H) → g v σ H Q
def okI {E : Type} (L : List (Sl E)) (i : Nat) : Bool := match L[i]? with
  | some s => nsr s
  | none => false
theorem okI_ok {E : Type} {L : List (Sl E)} {i : Nat} (h : okI L i = true) : ∃ s0, L[i]? = some s0 ∧ s0 ≠ .sr := by
  unfold okI at h
  split at h
  · rename_i s e
    refine ⟨s, e, fun z => ?_⟩
    rw [z] at h
    cases h
  · cases h
theorem okI_lift {E α : Type} {L : List (Sl E)} {i : Nat} (h : okI L i = true) : ∃ s0, (lift α L)[i]? = some s0 ∧ s0 ≠ .sr := by
  obtain ⟨s, e, n⟩ := okI_ok h
  exact ⟨s.fst, lift_of e, fun z => n (Sl.fst_sr.mp z)⟩
def setAll {E α : Type} : List (Sl (E × α)) → List Nat → Pt α → List (Sl (E × α))
  | L, i :: is, .cons S f ps => setAll (L.set i (.im S fun e => f e.2)) is ps
  | L, _, _ => L
def gAll : List Nat → TGs
  | [] => gNil
  | i :: is => gCons (gName i) (gAll is)
section
variable {E α β ρ ι : Type} {X : ι → Cx} {K : PySem.W.Frag} {R : RetR ρ} {L L' : List (Sl E)} {S : Rp α} {T : Rp β} {e : Expr} {pos : Pos}
theorem tgt_name {i : Nat} {x : Str} (hN : ∀ j, (X j).N.Nodup) (hi : ∀ j, (X j).N[i]? = some x) (hx : ∀ j, Loc (X j).env.scope x) (ok : okI L i = true) (hf : ∀ j, (X j).fn x = true ∨ (X j).env.scope.names.lookup x = some .local := by intro _; first | exact .inl rfl | exact .inr rfl | assumption) :
    TGt X K L S (.Name x pos) [i] ((lift α L).set i (.im S Prod.snd)) :=
  ⟨_, fun j => pg_name (hN j) (hi j) (hx j) (hf j), fun c σ H env own x v Q s r q => q _ _ ((s.lift x).setI (okI_lift ok) S Prod.snd r) ⟨Ag.refl.set List.mem_cons_self, fun a => (Sr.setI (okI_lift ok) a).trans Sr.lift, fun j hj => putO_ne (fun z => hj (by rw [z]; exact List.mem_cons_self)), fun j hj => by rw [List.mem_singleton.mp hj]; exact putO_self⟩⟩
theorem setAll_ok {c : Bc} {js : List Nat} {σ0 : L2.St} {E0 : Type} {L00 : List (Sl E0)} {own0 : Own} {H : Hp} {env : E} {x : α} {Q : L2.St → Hp → Prop} : ∀ {ps : Pt α} {is : List Nat} {L0 : List (Sl (E × α))} {vs : List V} {σ : L2.St} {own : Own}, is.length = ps.len → (∀ i ∈ is, okI L0 i = true) → (∀ i ∈ is, i ∈ js) → Ag js σ0 σ → (∀ a, Sr L0 own a ↔ Sr L00 own0 a) → (∀ i, i ∉ js → own i = own0 i) → (∀ i, i ∈ js → i ∉ is → own i = none) → St K c L0 σ H (env, x) own → PtOk K (Wb c own) H x ps vs → (∀ σ' own', St K c (setAll L0 is ps) σ' H (env, x) own' → Bd js L00 own0 σ0 (setAll L0 is ps) own' σ' → Q σ' H) → gAll is vs σ H Q := by
  intro ps
  induction ps with
  | nil =>
    intro is L0 vs σ own hl ok hj ag sp so no s p q
    cases is with
    | nil => exact ⟨p, q σ own s ⟨ag, sp, so, fun i hi => no i hi (by simp)⟩⟩
    | cons i is => simp [Pt.len] at hl
  | cons S f ps ih =>
    intro is L0 vs σ own hl ok hj ag sp so no s p q
    cases is with
    | nil => simp [Pt.len] at hl
    | cons i is =>
      obtain ⟨v, us, rfl, h1, h2⟩ := p
      refine ⟨v, us, rfl, ?_⟩
      have s2 := s.setI (okI_ok (ok i List.mem_cons_self)) S (fun e => f e.2) h1
      have less : ∀ a, Wb c (putO own i none) a → Wb c own a := fun a z => z.imp id fun ⟨j, q⟩ => by
        by_cases h : j = i
        · subst h
          rw [putO_self] at q
          cases q
        · rw [putO_ne h] at q
          exact ⟨j, q⟩
      refine ih (is := is) (by simpa [Pt.len] using hl) (fun j hjj => ?_) (fun j z => hj j (List.mem_cons_of_mem _ z)) (ag.set (hj i List.mem_cons_self)) (fun a => (Sr.setI (okI_ok (ok i List.mem_cons_self)) a).trans (sp a)) (fun j hjj => (putO_ne (fun z => hjj (by rw [z]; exact hj i List.mem_cons_self))).trans (so j hjj)) (fun j hjj nj => by
        by_cases z : j = i
        · rw [z]
          exact putO_self
        · rw [putO_ne z]
          exact no j hjj (fun w => (List.mem_cons.mp w).elim z nj)) s2 (h2.mono (Ge.less less)) q
      have := ok j (List.mem_cons_of_mem _ hjj)
      unfold okI at this ⊢
      by_cases z : j = i
      · subst z
        obtain ⟨s0, h0, _⟩ := okI_ok (ok j List.mem_cons_self)
        rw [List.getElem?_set_self (List.getElem?_eq_some_iff.mp h0).1]
        rfl
      · rw [List.getElem?_set_ne (Ne.symm z)]
        exact this
theorem tgt_tup {es : List Expr} {k : Nat} {ps : Pt α} {is : List Nat} (u : Unp S ps) (hp : ∀ j, PGs (X j) es (gAll is)) (hc : ∀ j, (X j).calm = true) (hl : is.length = ps.len) (ok : ∀ i ∈ is, okI L i = true)
    (hK : ∀ j, (X j).K = K := by intro _; rfl) (hn : ∀ j, (assignEach es (X j).env).length = is.length := by intro _; rfl) (hst : ∀ j, (assignEach es (X j).env).findIdx? (·.1) = none := by intro _; rfl) : TGt X K L S (.Tuple es k pos) is (setAll (lift α L) is ps) := by
  refine ⟨_, fun j => by
    have z := pg_tup (k := k) (pos := pos) (hc j) (hp j) (hn j) (hst j)
    rw [hK j] at z
    exact z, fun c σ H env own x v Q s r q => ?_⟩
  obtain ⟨a, vs, rfl, h1, h2⟩ := u.at_ r
  refine ⟨a, vs, rfl, h1.sq, by rw [h2.len, hl], setAll_ok (js := is) (σ0 := σ) (L00 := L) hl (fun i hi => ?_) (fun _ z => z) Ag.refl (own0 := own) (fun a => Sr.lift) (fun _ _ => rfl) (fun i h n => absurd h n) (s.lift x) h2 q⟩
  obtain ⟨s0, h0, n0⟩ := okI_lift (α := α) (ok i hi)
  unfold okI
  rw [h0]
  cases s0 <;> first | rfl | exact absurd rfl n0
/-- targets = e -/
theorem ts_unp {tg : Expr} {we : E → (α → Prop) → Prop} {L1 : List (Sl (E × α))} {set : E → α → E} (h : TX X K L S e we) {is : List Nat} (ht : TGt X K L S tg is L1) (hsub : Sub (fun e : E × α => set e.1 e.2) L1 L') (hs : ∀ j, swapsWithSole [tg] e pos.line (X j).env = pure false := by intro _; rfl) (hw : ∀ j, swappedStores [tg] e (X j).env = pure none := by intro _; rfl)
    (h1 : ∀ j, (assignEach [tg] (X j).env).map (·.2) = [assign tg (X j).env] := by intro _; rfl) : TS1 X K R L L' (.Assign [tg] e pos) (fun env k => we env fun y => k.nx (set env y)) := by
  obtain ⟨t, p, f⟩ := h.ex
  obtain ⟨g, pg, fg⟩ := ht.ex
  refine ⟨fun e k k' hn _ hw => h.mono _ _ _ (fun _ hx => hn _ hx) hw, _, fun j => ps_asg (p j) (pg j) (hs j) (hw j) (h1 j), fun c σ H env own D s hw => f c σ H env own _ s (h.mono _ _ _ (fun y hy v H' x' r => ?_) hw)⟩
  exact fg c σ H' env own y v _ (s.ex x') r fun σ' own' s' _ => hy _ _ _ (s'.sub hsub)
end

/-! ### what is walked -/
structure ItOk {α : Type} (K : PySem.W.Frag) (W : WS) (H1 : Hp) (S : Rp α) (xs : List α) (G : Hp → Prop) (Y : Nat → Hp → V → Hp → Prop) : Prop where
  g : ∀ W' H2, Ge W H1 W' H2 → G H2
  y : ∀ W' H2 H3 i v, Ge W H1 W' H2 → (∀ l, H2 l = none → ¬ W' l) → i < xs.length → Y i H2 v H3 → Same H2 H3 ∧ ∃ x, xs[i]? = some x ∧ S.r K W' H3 v x
structure TIt {E α : Type} {ι : Type} (X : ι → Cx) (K : PySem.W.Frag) (L : List (Sl E)) (S : Rp α) (tg iter : Expr) (w : E → (List α → Prop) → Prop) : Prop where
  mono : Mono w
  ex : ∃ wi, (∀ i, PI (X i) tg iter wi) ∧ ∀ (c : Bc) (σ : L2.St) (H : Hp) (env : E) (own : Own) (Q : It → Hp → Prop), St K c L σ H env own → w env (fun xs => ∀ J H1 G Y, Ex L own H H1 → Walk J xs.length G Y → ItOk K (Wb c own) H1 S xs G Y → Q J H1) → wi σ H Q
section
variable {E α ι : Type} {X : ι → Cx} {K : PySem.W.Frag} {L : List (Sl E)} {S : Rp α} {e tg : Expr} {pos p : Pos}
theorem it_list {we : E → (List α → Prop) → Prop} (h : TX X K L (lstR S) e we) (hK : ∀ j, (X j).K = K := by intro _; rfl) : TIt X K L S tg e we := by
  obtain ⟨t, pe, f⟩ := h.ex
  refine ⟨h.mono, _, fun j => by
    have z := pi_list (tg := tg) (pe j)
    rw [hK j] at z
    exact z, fun c σ H env own Q s hw => f c σ H env own _ s (h.mono _ _ _ (fun xs hx v H1 x1 r => ?_) hw)⟩
  obtain ⟨a, vs, rfl, n, e1, p1⟩ := r
  have ll := Paired.length p1
  refine ⟨a, rfl, ⟨_, SqL.of e1⟩, hx _ H1 (fun H => SqL K H a vs) (YAt vs) x1 (by rw [← ll]; exact walk_list) ⟨fun W' H2 g => SqL.of (g _ _ n e1).2, fun W' H2 H3 i v g fr hi y => ?_⟩⟩
  obtain ⟨rfl, hv⟩ := y
  obtain ⟨x, hx, rx⟩ := Paired.at2 p1 hv
  exact ⟨Same.refl _, x, hx, S.mono g rx⟩
theorem it_tup {we : E → (List α → Prop) → Prop} (h : TX X K L (tupR S) e we) (hK : ∀ j, (X j).K = K := by intro _; rfl) : TIt X K L S tg e we := by
  obtain ⟨t, pe, f⟩ := h.ex
  refine ⟨h.mono, _, fun j => by
    have z := pi_tup (tg := tg) (pe j)
    rw [hK j] at z
    exact z, fun c σ H env own Q s hw => f c σ H env own _ s (h.mono _ _ _ (fun xs hx v H1 x1 r => ?_) hw)⟩
  obtain ⟨a, vs, rfl, e1, p1⟩ := r
  have ll := Paired.length p1
  refine ⟨a, rfl, ⟨_, e1.sq⟩, hx _ H1 (fun H => SqT K H a vs) (YAt vs) x1 (by rw [← ll]; exact walk_tup) ⟨fun W' H2 g => (e1.mono g).sq, fun W' H2 H3 i v g fr hi y => ?_⟩⟩
  obtain ⟨rfl, hv⟩ := y
  obtain ⟨x, hx, rx⟩ := Paired.at2 p1 hv
  exact ⟨Same.refl _, x, hx, S.mono g rx⟩
/-- range(n) -/
def rangeL (n : Int) : List Int := (List.range n.toNat).map (fun (i : Nat) => (i : Int))
theorem it_range1 {a : Expr} {we : E → (Int → Prop) → Prop} (hg : ∀ j, Gl (X j) "range") (hm : ∀ j, (X j).mg "range" = none) (h : TX X K L intR a we) (hs : ∀ j, starEach [a] (X j).env = [(false, eval a (X j).env)] := by intro _; rfl) : TIt X K L intR tg (.Call (.Name "range" p) [a] [] pos) (fun env k => we env fun n => (-(2 ^ 62) ≤ n ∧ n < 2 ^ 62) ∧ k (rangeL n)) := by
  obtain ⟨t, pe, f⟩ := h.ex
  refine ⟨fun e k k' hk hw => h.mono _ _ _ (fun n hn => ⟨hn.1, hk _ hn.2⟩) hw, _, fun j => pi_range1 (tg := tg) (hg j) (hm j) (pa_cons (pe j) pa_nil (hs j)) (hs j), fun c σ H env own Q s hw => f c σ H env own _ s (h.mono _ _ _ (fun n hx v H1 x1 r => ?_) hw)⟩
  cases r
  refine ⟨n, rfl, hx.1.1, hx.1.2, hx.2 _ H1 (fun _ => True) (YFn fun i => .int ((0 : Int) + i)) x1 (by unfold rangeL; rw [List.length_map, List.length_range]; exact walk_range) ⟨fun _ _ _ => trivial, fun W' H2 H3 i v g fr hi y => ?_⟩⟩
  obtain ⟨rfl, rfl⟩ := y
  unfold rangeL at hi ⊢
  rw [List.length_map, List.length_range] at hi
  refine ⟨Same.refl _, (i : Int), ?_, by show V.int (0 + (i : Int)) = V.int i; rw [Int.zero_add]⟩
  rw [List.getElem?_map, List.getElem?_range hi]
  rfl
theorem it_str {we : E → (Str → Prop) → Prop} (h : TX X K L strR e we) : TIt X K L strR tg e (fun env k => we env fun z => k (z.cps.toList.map fun c => (⟨#[c]⟩ : Str))) := by
  obtain ⟨t, pe, f⟩ := h.ex
  refine ⟨fun e k k' hk hw => h.mono _ _ _ (fun n hn => hk _ hn) hw, _, fun j => pi_str (tg := tg) (pe j), fun c σ H env own Q s hw => f c σ H env own _ s (h.mono _ _ _ (fun z hx v H1 x1 r => ?_) hw)⟩
  cases r
  refine ⟨z, rfl, hx _ H1 (fun _ => True) _ x1 (by rw [List.length_map, Array.length_toList]; exact walk_str) ⟨fun _ _ _ => trivial, fun W' H2 H3 i v g fr hi y => ?_⟩⟩
  obtain ⟨rfl, ch, h1, rfl⟩ := y
  refine ⟨Same.refl _, ⟨#[ch]⟩, ?_, rfl⟩
  rw [List.getElem?_map, Array.getElem?_toList, h1]
  rfl
theorem it_enum {es : List Expr} {kk : Nat} {tpos : Pos} {we : E → (List α → Prop) → Prop} (hg : ∀ j, Gl (X j) "enumerate") (hm : ∀ j, (X j).mg "enumerate" = none) (h : TX X K L (lstR S) e we) (hK : ∀ j, (X j).K = K := by intro _; rfl) (hs : ∀ j, starEach [e] (X j).env = [(false, eval e (X j).env)] := by intro _; rfl) :
    TIt X K L (prR intR S) (.Tuple es kk tpos) (.Call (.Name "enumerate" p) [e] [] pos) (fun env k => we env fun xs => k (xs.zipIdx.map fun q => ((q.2 : Int), q.1))) := by
  obtain ⟨t, pe, f⟩ := h.ex
  refine ⟨fun e k k' hk hw => h.mono _ _ _ (fun n hn => hk _ hn) hw, _, fun j => by
    have z := pi_enum (elts := es) (kk := kk) (tpos := tpos) (pos := pos) (p := p) (hg j) (hm j) (pa_cons (pe j) pa_nil (hs j)) (hs j)
    rw [hK j] at z
    exact z, fun c σ H env own Q s hw => f c σ H env own _ s (h.mono _ _ _ (fun xs hx v H1 x1 r => ?_) hw)⟩
  obtain ⟨a, vs, rfl, n, e1, p1⟩ := r
  have ll := Paired.length p1
  refine ⟨a, vs, rfl, SqL.of e1, hx _ H1 _ _ x1 (by rw [List.length_map, List.length_zipIdx, ← ll]; exact walk_enum) ⟨fun W' H2 g => SqL.of (g _ _ n e1).2, fun W' H2 H3 i v g fr hi y => ?_⟩⟩
  obtain ⟨T, u, w, rfl, hT, rfl, hu, hw'⟩ := y
  cases hu
  obtain ⟨x, hx2, rx⟩ := Paired.at2 p1 hw'
  refine ⟨Same.new hT, ((i : Int), x), ?_, T, .int (i : Nat), w, rfl, TW.of (fr T hT) upd_same, rfl, S.mono (g.trans (Ge.same (Same.new hT))) rx⟩
  rw [List.getElem?_map, List.getElem?_zipIdx, hx2]
  simp
end

/-! ### for -/
def wFor {E α ρ : Type} (wb : E × α → Kn (E × α) ρ → Prop) : List α → E → Kn E ρ → Prop
  | [], e, k => k.nx e
  | x :: xs, e, k => wb (e, x) ⟨fun e' => wFor wb xs e'.1 k, k.rt⟩
theorem wFor.mono {E α ρ : Type} {wb : E × α → Kn (E × α) ρ → Prop} (h : MonoS wb) : ∀ (xs : List α), MonoS (wFor wb xs)
  | [], e, k, k', hn, hr, hw => hn _ hw
  | x :: xs, e, k, k', hn, hr, hw => h (e, x) ⟨fun e' => wFor wb xs e'.1 k, k.rt⟩ ⟨fun e' => wFor wb xs e'.1 k', k'.rt⟩ (fun e' he => wFor.mono h xs e'.1 k k' hn hr he) hr hw
open Classical in
/-- all that is not owned is known to stay -/
noncomputable def pinB (c : Bc) (own : Own) (H1 : Hp) : Bc := ⟨fun a => if ∃ i, own i = some a then none else H1 a, c.W, c.B⟩
section
variable {E E' α ρ : Type} {K : PySem.W.Frag} {c c' : Bc} {L : List (Sl E)} {L' : List (Sl E')} {σ σ' : L2.St} {H H' H1 : Hp} {e : E} {e' : E'} {own own' : Own}
theorem pinB_own {i : Nat} {a : Addr} (h : own i = some a) : (pinB c own H1).H0 a = none := if_pos ⟨i, h⟩
theorem pinB_not {a : Addr} (h : ¬ ∃ i, own i = some a) : (pinB c own H1).H0 a = H1 a := if_neg h
theorem St.notOwn (s : St K c L σ H e own) {a : Addr} {o : HO} (nb : ¬ c.B a) (h : c.H0 a = some o) : ¬ ∃ i, own i = some a := fun ⟨i, hi⟩ => by
  cases hL : L[i]? with
  | none =>
    rw [s.out i hL] at hi
    cases hi
  | some sl =>
    have q := s.slot i sl hL
    cases sl with
    | any =>
      rw [show own i = none from q] at hi
      cases hi
    | im S g =>
      rw [q.1] at hi
      cases hi
    | ow S g =>
      obtain ⟨b, vs, h1, _, h2, _⟩ := q
      rw [hi] at h1
      cases h1
      rw [h] at h2
      cases h2.1
    | ox R g =>
      obtain ⟨b, vs, h1, _, h2, _⟩ := q
      rw [hi] at h1
      cases h1
      rw [h] at h2
      cases h2.1
    | sr =>
      obtain ⟨p, h1, _, h2, _⟩ := q
      rw [hi] at h1
      cases h1
      rcases h2 with h2 | h2
      · exact nb h2
      · rw [h] at h2
        cases h2
theorem St.pin (s : St K c L σ H e own) : Pin c (pinB c own H) := ⟨rfl, rfl, fun a o nb h => by
  rw [pinB_not (s.notOwn nb h)]
  exact s.stay a o nb h⟩
theorem St.pinned (s : St K c L σ H e own) : St K (pinB c own H) L σ H e own := by
  refine ⟨s.len, fun a o nb h => ?_, s.dom, s.bw, s.bs, s.inj, s.out, fun i sl hL => ?_⟩
  · by_cases z : ∃ i, own i = some a
    · obtain ⟨i, hi⟩ := z
      rw [pinB_own hi] at h
      cases h
    · rwa [pinB_not z] at h
  · have q := s.slot i sl hL
    cases sl with
    | any => exact q
    | im S g => exact q
    | ow S g =>
      obtain ⟨b, vs, h1, h2, h3, h4⟩ := q
      exact ⟨b, vs, h1, h2, ⟨pinB_own h1, h3.2⟩, h4⟩
    | ox R g =>
      obtain ⟨b, vs, h1, h2, h3, h4⟩ := q
      exact ⟨b, vs, h1, h2, ⟨pinB_own h1, h3.2⟩, h4⟩
    | sr =>
      obtain ⟨p, h1, h2, h3, h4⟩ := q
      exact ⟨p, h1, h2, .inr (pinB_own h1), h4⟩
theorem St.unpin (p : Pin c c') (s : St K c' L σ H e own) : St K c L σ H e own := by
  have hW : c.W = c'.W := p.W.symm
  have hB : c.B = c'.B := p.B.symm
  have wb : Wb c own = Wb c' own := by unfold Wb; rw [hW]
  refine ⟨s.len, fun a o nb h => s.stay a o (by rw [← hB]; exact nb) (p.st a o nb h), by rw [hW]; exact s.dom, by rw [hW, hB]; exact s.bw, by rw [hB]; exact s.bs, s.inj, s.out, fun i sl hL => ?_⟩
  rw [wb]
  have q := s.slot i sl hL
  cases sl with
  | any => exact q
  | im S g => exact q
  | ow S g =>
    obtain ⟨b, vs, h1, h2, h3, h4⟩ := q
    refine ⟨b, vs, h1, h2, ⟨p.none (fun z => ?_) h3.1, by rw [hW]; exact h3.2⟩, h4⟩
    obtain ⟨j, q1, q2⟩ := s.bs b z
    have := s.inj i j b h1 q2
    subst this
    rw [hL] at q1
    cases q1
  | ox R g =>
    obtain ⟨b, vs, h1, h2, h3, h4⟩ := q
    refine ⟨b, vs, h1, h2, ⟨p.none (fun z => ?_) h3.1, by rw [hW]; exact h3.2⟩, h4⟩
    obtain ⟨j, q1, q2⟩ := s.bs b z
    have := s.inj i j b h1 q2
    subst this
    rw [hL] at q1
    cases q1
  | sr =>
    obtain ⟨b, h1, h2, h3, h4⟩ := q
    refine ⟨b, h1, h2, ?_, h4⟩
    by_cases z : c.B b
    · exact .inl z
    · rcases h3 with h3 | h3
      · exact .inl (by rw [hB]; exact h3)
      · exact .inr (p.none (by rw [← hB]; exact z) h3)
/-- what was not owned then stays, and is not owned -/
theorem St.geP (s1 : St K c L σ H1 e own) (s : St K (pinB c own H1) L' σ' H' e' own') : Ge (Wb c own) H1 (Wb (pinB c own H1) own') H' := fun a o n h => by
  have no : ¬ ∃ i, own i = some a := fun z => n (.inr z)
  have h0 : (pinB c own H1).H0 a = some o := by rw [pinB_not no]; exact h
  have nb : ¬ c.B a := fun z => n (.inl (s1.bw a z))
  refine ⟨?_, s.stay a o nb h0⟩
  rintro (z | z)
  · exact n (.inl z)
  · exact s.notOwn nb h0 z
end
section
variable {E α ρ ι : Type} {X : ι → Cx} {K : PySem.W.Frag} {R : RetR ρ} {L : List (Sl E)} {Lin Lout : List (Sl (E × α))} {S : Rp α} {iter tg : Expr} {body : List Stmt} {pos : Pos} {wi : E → (List α → Prop) → Prop} {wb : E × α → Kn (E × α) ρ → Prop}
theorem ts_for (hp : ∀ j, PassesOwn (model (X j).prog (X j).w) (X j).A (X j).env (X j).xe) (hc : ∀ j, (X j).calm = true) {is : List Nat} (hi : TIt X K L S tg iter wi) (ht : TGt X K L S tg is Lin) (hb : TS X K R Lin Lout body wb) (hsub : Sub Prod.fst Lout L)
    (hs : ∀ j x, foldedSetIterable iter (X j).env x = pure x := by intro _ _; rfl) : TS1 X K R L L (.For tg iter body [] pos) (fun env k => wi env fun xs => wFor wb xs env k) := by
  obtain ⟨wi', pi, fi⟩ := hi.ex
  obtain ⟨g, pg, fg⟩ := ht.ex
  obtain ⟨t, pb, fb⟩ := hb.ex
  refine ⟨fun e k k' hn hr hw => hi.mono _ _ _ (fun xs hx => wFor.mono hb.mono xs e k k' hn hr hx) hw, _, fun j => ps_for (hp j) (hc j) (pi j) (pg j) (pb j) (hs j), fun c σ H env own D s hw => ?_⟩
  refine fi c σ H env own _ s (hi.mono _ _ _ (fun xs hx J H1 G Y x1 wk ok => ?_) hw)
  have s1 := s.ex x1
  have P := s1.pin
  refine for_it wk (fun i σ' H' => ∃ e' own', St K (pinB c own H1) L σ' H' e' own' ∧ wFor wb (xs.drop i) e' (kon K R L c D)) ⟨env, own, s1.pinned, hx⟩ (fun i σ' H' _ ⟨e', own', s', _⟩ => ok.g _ _ (s1.geP s')) (fun i v σ' H2 H3 hi z y => ?_) (fun σ' H' ⟨e', own', s', hw'⟩ => ?_)
  · obtain ⟨e', own', s', hw'⟩ := z
    obtain ⟨k, x, hx', rx⟩ := ok.y _ H2 H3 i v (s1.geP s') (fun l hl => s'.fresh hl) hi y
    have ed : xs.drop i = x :: xs.drop (i + 1) := by
      obtain ⟨h1, h2⟩ := List.getElem?_eq_some_iff.mp hx'
      rw [← h2]
      exact List.drop_eq_getElem_cons h1
    rw [ed] at hw'
    have s3 := s'.ex (s'.exSame k)
    refine fg _ σ' H3 e' own' x v _ s3 rx fun σ2 own2 s2 _ => ?_
    refine fb _ σ2 H3 (e', x) own2 _ s2 (hb.mono _ ⟨fun e2 => wFor wb (xs.drop (i + 1)) e2.1 (kon K R L c D), (kon K R L c D).rt⟩ _ (fun e2 h2 σ4 H4 own4 s4 => ?_) (fun r hr v' H' rr => hr v' H' (R.pin P rr)) hw')
    exact ⟨e2.1, _, s4.sub hsub, h2⟩
  · rw [List.drop_length] at hw'
    exact hw' σ' H' own' (St.unpin P s')
/-! ### while -/
def wWhile {E ρ : Type} (wt : E → (Bool → Prop) → Prop) (wb : E → Kn E ρ → Prop) : Nat → E → Kn E ρ → Prop
  | 0, _, _ => False
  | n + 1, e, k => wt e fun b => if b = true then wb e ⟨fun e' => wWhile wt wb n e' k, k.rt⟩ else k.nx e
theorem wWhile.mono {E ρ : Type} {wt : E → (Bool → Prop) → Prop} {wb : E → Kn E ρ → Prop} (ht : Mono wt) (h : MonoS wb) : ∀ n, MonoS (wWhile wt wb n)
  | 0, _, _, _, _, _, hw => hw
  | n + 1, e, k, k', hn, hr, hw => ht _ _ _ (fun b hb => by
      cases b
      · exact hn _ hb
      · exact h e ⟨fun e' => wWhile wt wb n e' k, k.rt⟩ ⟨fun e' => wWhile wt wb n e' k', k'.rt⟩ (fun e' he => wWhile.mono ht h n e' k k' hn hr he) hr hb) hw
theorem ts_while {c0 : Expr} {wt : E → (Bool → Prop) → Prop} {wl : E → Kn E ρ → Prop} {L1 : List (Sl E)} (hp : ∀ j, PassesOwn (model (X j).prog (X j).w) (X j).A (X j).env (X j).xe) (hc : TT X K L c0 wt) (hb : TS X K R L L1 body wl) (hsub : Sub id L1 L) : TS1 X K R L L (.While c0 body [] pos) (fun env k => ∃ n, wWhile wt wl n env k) := by
  obtain ⟨t0, p0, f0⟩ := hc.ex
  obtain ⟨t, pb, fb⟩ := hb.ex
  refine ⟨fun e k k' hn hr ⟨n, hw⟩ => ⟨n, wWhile.mono hc.mono hb.mono n e k k' hn hr hw⟩, _, fun j => ps_while (hp j) (p0 j) (pb j), fun c σ H env own D s ⟨n, hw⟩ => ?_⟩
  refine ⟨fun m σ' H' => ∃ e' own', St K c L σ' H' e' own' ∧ wWhile wt wl m e' (kon K R L c D), ⟨n, env, own, s, hw⟩, fun m σ' H' ⟨e', own', s', hw'⟩ => ?_⟩
  cases m with
  | zero => exact hw'.elim
  | succ m =>
    refine f0 c σ' H' e' own' _ s' (hc.mono _ _ _ (fun b hx H1 x1 => ?_) hw')
    cases b with
    | false => exact hx σ' H1 own' (s'.ex x1)
    | true =>
      refine ⟨fun σ2 H2 => ∃ e2 own2, St K c L σ2 H2 e2 own2 ∧ wWhile wt wl m e2 (kon K R L c D), fun σ2 H2 z => ⟨m, Nat.lt_succ_self m, z⟩, ?_⟩
      refine fb c σ' H1 e' own' _ (s'.ex x1) (hb.mono _ ⟨fun e2 => wWhile wt wl m e2 (kon K R L c D), (kon K R L c D).rt⟩ _ (fun e2 h2 σ4 H4 own4 s4 => ?_) (fun r hr => hr) hx)
      exact ⟨e2, _, s4.sub hsub, h2⟩
end

/-! ### a def's body -/
def layA {E : Type} : {τ : Type} → Ar τ → (E → τ) → List (Sl E)
  | _, .nil, _ => []
  | _, .cons S A, f => .im S (fun e => (f e).1) :: layA A fun e => (f e).2
  | _, .src A, f => .sr :: layA A f
def ownA {τ : Type} (A : Ar τ) (vs : List V) : Own := fun i => if srB A i = true then (match vs[i]? with | some (.ref a) => some a | _ => none) else none
theorem layA_len {E : Type} : ∀ {τ : Type} {A : Ar τ} {f : E → τ}, (layA A f).length = arn A := by
  intro τ A
  induction A with
  | nil => intros; rfl
  | cons S A ih => intro f; simp [layA, arn, ih]
  | src A ih => intro f; simp [layA, arn, ih]
theorem layA_at {E : Type} {K : PySem.W.Frag} {W : WS} {H : Hp} {P : WS} {env : E} : ∀ {τ : Type} {A : Ar τ} {f : E → τ} {vs : List V} {i : Nat} {s : Sl E}, ArOk K W H P A vs (f env) → (layA A f)[i]? = some s →
    (srB A i = false ∧ ∃ (α : Type) (S : Rp α) (g : E → α) (v : V), s = .im S g ∧ vs[i]? = some v ∧ S.r K W H v (g env)) ∨ (srB A i = true ∧ s = .sr ∧ ∃ p, vs[i]? = some (.ref p) ∧ P p) := by
  intro τ A
  induction A with
  | nil => intro f vs i s _ h; simp [layA] at h
  | cons S A ih =>
    rintro f vs i s ⟨v, us, rfl, h1, h2⟩ h
    cases i with
    | zero =>
      simp only [layA, List.getElem?_cons_zero, Option.some.injEq] at h
      subst h
      exact .inl ⟨rfl, _, S, _, v, rfl, rfl, h1⟩
    | succ i => exact ih (f := fun e => (f e).2) (i := i) h2 h
  | src A ih =>
    rintro f vs i s ⟨v, us, rfl, h1, h2⟩ h
    cases i with
    | zero =>
      simp only [layA, List.getElem?_cons_zero, Option.some.injEq] at h
      subst h
      exact .inr ⟨rfl, rfl, v, rfl, h1⟩
    | succ i => exact ih (i := i) h2 h
theorem srB_lt : ∀ {τ : Type} {A : Ar τ} {i : Nat}, srB A i = true → i < arn A := by
  intro τ A
  induction A with
  | nil => intro i h; simp [srB] at h
  | cons S A ih =>
    intro i h
    cases i with
    | zero => simp [srB] at h
    | succ i => simpa [arn] using ih (i := i) h
  | src A ih =>
    intro i h
    cases i with
    | zero => simp [arn]
    | succ i => simpa [arn] using ih (i := i) h
theorem srB_none : ∀ {τ : Type} {A : Ar τ} {i : Nat}, srs A = 0 → srB A i = false := by
  intro τ A
  induction A with
  | nil => intros; rfl
  | cons S A ih =>
    intro i h
    cases i with
    | zero => rfl
    | succ i => exact ih (i := i) h
  | src A ih => intro i h; simp [srs] at h
theorem srB_one : ∀ {τ : Type} {A : Ar τ} {i j : Nat}, srs A ≤ 1 → srB A i = true → srB A j = true → i = j := by
  intro τ A
  induction A with
  | nil => intro i j _ h; simp [srB] at h
  | cons S A ih =>
    intro i j h hi hj
    cases i with
    | zero => simp [srB] at hi
    | succ i =>
      cases j with
      | zero => simp [srB] at hj
      | succ j => rw [ih (i := i) (j := j) h hi hj]
  | src A ih =>
    intro i j h hi hj
    have z : srs A = 0 := by simp only [srs] at h; omega
    cases i with
    | zero =>
      cases j with
      | zero => rfl
      | succ j =>
        have := srB_none (i := j) z
        rw [show srB A j = true from hj] at this
        cases this
    | succ i =>
      have := srB_none (i := i) z
      rw [show srB A i = true from hi] at this
      cases this
theorem ownA_some {τ : Type} {A : Ar τ} {vs : List V} {i : Nat} {a : Addr} (h : ownA A vs i = some a) : srB A i = true ∧ vs[i]? = some (.ref a) := by
  unfold ownA at h
  split at h
  · rename_i hs
    refine ⟨hs, ?_⟩
    split at h
    · rename_i b e
      rw [e, Option.some.inj h]
    · cases h
  · cases h
theorem start_St {E τ : Type} {K : PySem.W.Frag} {W : WS} {H : Hp} {A : Ar τ} {vs : List V} {n : Nat} {N : List Str} {env : E} {f : E → τ} (one : srs A ≤ 1) (hN : N.length = arn A + n) (dom : ∀ a, W a → OwO (H a)) (ok : ArOk K W H (fun p => W p ∧ SrcAt H p) A vs (f env)) :
    St K ⟨H, W, Bof A vs⟩ (layA A f ++ List.replicate n .any) (start N vs) H env (ownA A vs) := by
  have lv := ok.len
  have ll : (layA A f : List (Sl E)).length = arn A := layA_len
  have less : ∀ a, Wb ⟨H, W, Bof A vs⟩ (ownA A vs) a → W a := fun a z => by
    rcases z with z | ⟨i, z⟩
    · exact z
    · obtain ⟨h1, h2⟩ := ownA_some z
      obtain ⟨p, h3, h4⟩ := ok.at h1
      rw [h2] at h3
      cases h3
      exact h4.1
  refine ⟨?_, fun a o _ h => h, dom, fun a ⟨i, h1, h2⟩ => ?_, fun a ⟨i, h1, h2⟩ => ?_, fun i j a h1 h2 => srB_one one (ownA_some h1).1 (ownA_some h2).1, fun i hi => ?_, fun i s hs => ?_⟩
  · unfold L2.start
    simp [lv, ll, hN]
  · obtain ⟨p, h3, h4⟩ := ok.at h1
    rw [h2] at h3
    cases h3
    exact h4.1
  · have il : i < arn A := srB_lt h1
    have hl : (layA A f : List (Sl E))[i]? = some (layA A f)[i] := List.getElem?_eq_getElem (by rw [ll]; exact il)
    refine ⟨i, ?_, ?_⟩
    · rw [List.getElem?_append_left (by rw [ll]; exact il), hl]
      rcases layA_at ok hl with ⟨z, _⟩ | ⟨_, z, _⟩
      · rw [show srB A i = true from h1] at z
        cases z
      · rw [z]
    · unfold ownA
      rw [if_pos (show srB A i = true from h1), h2]
  · unfold ownA
    rw [if_neg]
    intro z
    have il := srB_lt z
    rw [List.getElem?_eq_none_iff, List.length_append, ll] at hi
    omega
  · by_cases il : i < arn A
    · rw [List.getElem?_append_left (by rw [ll]; exact il)] at hs
      have hσ : (start N vs)[i]? = (vs[i]?).map some := by
        unfold L2.start
        rw [List.getElem?_append_left (by rw [List.length_map, lv]; exact il), List.getElem?_map]
      rcases layA_at ok hs with ⟨z, α, S, g, v, rfl, h2, h3⟩ | ⟨z, rfl, p, h2, h3⟩
      · refine ⟨?_, v, by rw [hσ, h2]; rfl, S.mono (Ge.less less) h3⟩
        unfold ownA
        rw [z, if_neg (by decide)]
      · refine ⟨p, ?_, by rw [hσ, h2]; rfl, .inl ⟨i, z, h2⟩, h3.2⟩
        unfold ownA
        rw [if_pos z, h2]
    · rw [List.getElem?_append_right (by rw [ll]; omega), List.getElem?_replicate] at hs
      split at hs
      · cases hs
        show ownA A vs i = none
        unfold ownA
        rw [if_neg (fun z => il (srB_lt z))]
      · cases hs
/-- a def that hands a value back -/
theorem body_T {τ Λ ρ : Type} {X : Cx} {K : PySem.W.Frag} {A : Ar τ} {R : RetR ρ} {n : Nat} {N : List Str} {L' : List (Sl (τ × Λ))} {body : List Stmt} {wb : τ × Λ → Kn (τ × Λ) ρ → Prop} {vs : List V} {H : Hp} {Q : VK} {E : XK} (l0 : Λ) (hb : TS (fun _ : Unit => X) K R (layA A Prod.fst ++ List.replicate n .any) L' body wb) (one : srs A ≤ 1) (hN : N.length = arn A + n)
    (h : spT K A R (fun x k => wb (x, l0) ⟨fun _ => False, k⟩) vs H Q E) : ∃ t, PSs X body t ∧ t { nx := fun _ H' => Q .non H', rt := Q } (start N vs) H := by
  obtain ⟨W, x, dom, ok, hw⟩ := h
  obtain ⟨t, p, f⟩ := hb.ex
  exact ⟨t, p (), f _ _ _ (x, l0) _ _ (start_St (f := Prod.fst) one hN dom ok) (hb.mono (x, l0) ⟨fun _ => False, fun r => ∀ v H', R.r K ⟨H, W, Bof A vs⟩ H' v r → Q v H'⟩ _ (fun _ z => z.elim) (fun r z => z) hw)⟩
/-- a def that hands None back at its end -/
theorem body_N {τ Λ : Type} {X : Cx} {K : PySem.W.Frag} {A : Ar τ} {n : Nat} {N : List Str} {L' : List (Sl (τ × Λ))} {body : List Stmt} {wb : τ × Λ → Kn (τ × Λ) Unit → Prop} {vs : List V} {H : Hp} {Q : VK} {E : XK} (l0 : Λ) (hb : TS (fun _ : Unit => X) K (retI nonR) (layA A Prod.fst ++ List.replicate n .any) L' body wb) (one : srs A ≤ 1) (hN : N.length = arn A + n)
    (h : spT K A (retI nonR) (fun x k => wb (x, l0) ⟨fun _ => k (), k⟩) vs H Q E) : ∃ t, PSs X body t ∧ t { nx := fun _ H' => Q .non H', rt := Q } (start N vs) H := by
  obtain ⟨W, x, dom, ok, hw⟩ := h
  obtain ⟨t, p, f⟩ := hb.ex
  refine ⟨t, p (), f _ _ _ (x, l0) _ _ (start_St (f := Prod.fst) one hN dom ok) (hb.mono (x, l0) ⟨fun _ => ∀ v H', (retI nonR).r K ⟨H, W, Bof A vs⟩ H' v () → Q v H', fun r => ∀ v H', (retI nonR).r K ⟨H, W, Bof A vs⟩ H' v r → Q v H'⟩ _ (fun e z σ' H' own' s' => ?_) (fun r z => z) hw)⟩
  refine z .non H' ⟨⟨s'.stay, fun a hb => ?_⟩, rfl⟩
  obtain ⟨i, h1, h2⟩ := s'.bs a hb
  exact s'.sr ⟨i, h1, h2⟩
theorem spT_len {τ ρ : Type} {K : PySem.W.Frag} {A : Ar τ} {R : RetR ρ} {w : τ → (ρ → Prop) → Prop} {vs : List V} {H : Hp} {Q : VK} {E : XK} (h : spT K A R w vs H Q E) : vs.length = arn A := by
  obtain ⟨W, x, dom, ok, hw⟩ := h
  exact ok.len
end Tx

/-! comprehensions -/
namespace Tx
open PySem PySem.Spec PyProof.Rows L2 Gx
def plainS {E : Type} : Sl E → Bool
  | .any => true
  | .im _ _ => true
  | _ => false
def okW {E : Type} (L : List (Sl E)) (v : Nat) : Bool := match L[v]? with
  | some s => plainS s
  | none => false
def wipeL {E : Type} (L : List (Sl E)) : List Nat → List (Sl E)
  | [] => L
  | v :: vs => (wipeL L vs).set v .any
theorem wipeL_at {E : Type} {L : List (Sl E)} {i : Nat} : ∀ {vs : List Nat}, (wipeL L vs)[i]? = if i ∈ vs then (L[i]?).map (fun _ => .any) else L[i]?
  | [] => by simp [wipeL]
  | v :: vs => by
    show ((wipeL L vs).set v .any)[i]? = _
    have len : ∀ vs : List Nat, (wipeL L vs).length = L.length := by
      intro vs
      induction vs with
      | nil => rfl
      | cons v vs ih => simp [wipeL, ih]
    by_cases h : i = v
    · subst h
      rw [if_pos List.mem_cons_self]
      by_cases l : i < L.length
      · rw [List.getElem?_set_self (by rw [len]; exact l), List.getElem?_eq_getElem l]
        rfl
      · rw [List.getElem?_eq_none (by rw [List.length_set, len]; omega), List.getElem?_eq_none (by omega)]
        rfl
    · rw [List.getElem?_set_ne (Ne.symm h), wipeL_at (vs := vs)]
      by_cases m : i ∈ vs
      · rw [if_pos m, if_pos (List.mem_cons_of_mem _ m)]
      · rw [if_neg m, if_neg (fun z => (List.mem_cons.mp z).elim h m)]
theorem wipeL_len {E : Type} {L : List (Sl E)} : ∀ vs : List Nat, (wipeL L vs).length = L.length := by
  intro vs
  induction vs with
  | nil => rfl
  | cons v vs ih => simp [wipeL, ih]
section
variable {E : Type} {K : PySem.W.Frag} {c : Bc} {L : List (Sl E)} {σ : L2.St} {H H' : Hp} {e : E} {own : Own} {vs : List Nat} {D : Addr}
theorem Sr.wipe (ok : ∀ v ∈ vs, okW L v = true) (a : Addr) : Sr (wipeL L vs) own a ↔ Sr L own a := by
  constructor
  · rintro ⟨i, h1, h2⟩
    rw [wipeL_at] at h1
    split at h1
    · cases q : L[i]? <;> rw [q] at h1 <;> cases h1
    · exact ⟨i, h1, h2⟩
  · rintro ⟨i, h1, h2⟩
    refine ⟨i, ?_, h2⟩
    rw [wipeL_at, if_neg]
    · exact h1
    · intro z
      have := ok i z
      unfold okW at this
      rw [h1] at this
      cases this
theorem St.wipe (s : St K c L σ H e own) (ok : ∀ v ∈ vs, okW L v = true) : St K c (wipeL L vs) (L2.wipe σ vs) H e own := by
  refine ⟨by rw [wipe_length, wipeL_len, s.len], s.stay, s.dom, s.bw, fun a h => ?_, s.inj, fun i h => s.out i ?_, fun i sl h => ?_⟩
  · obtain ⟨i, h1, h2⟩ := (Sr.wipe ok a).mpr (let ⟨i, h1, h2⟩ := s.bs a h; ⟨i, h1, h2⟩)
    exact ⟨i, h1, h2⟩
  · rw [List.getElem?_eq_none_iff, wipeL_len] at h
    exact List.getElem?_eq_none h
  · rw [wipeL_at] at h
    rw [wipe_at]
    split at h
    · rename_i m
      rw [if_pos m]
      have o := ok i m
      unfold okW at o
      cases q : L[i]? with
      | none =>
        rw [q] at h
        cases h
      | some s0 =>
        rw [q] at h o
        cases h
        have q0 := s.slot i s0 q
        cases s0 with
        | any => exact q0
        | im S g => exact q0.1
        | ow S g => cases o
        | ox R g => cases o
        | sr => cases o
    · rename_i m
      rw [if_neg m]
      exact s.slot i sl h
/-- a list D of one's own that no slot knows -/
def withD (c : Bc) (D : Addr) : Bc := ⟨c.H0, fun a => c.W a ∨ a = D, c.B⟩
theorem St.notD (s : St K c L σ H e own) (hD : H D = none) : ∀ i, own i ≠ some D := fun i z => by
  obtain ⟨o, ho⟩ := (s.has z).some
  rw [hD] at ho
  cases ho
theorem geD (hD : H D = none) (k : ∀ a o, ¬ Wb c own a → H a = some o → H' a = some o) : Ge (Wb c own) H (Wb (withD c D) own) H' := fun a o n h => ⟨fun z => by
  rcases z with (z | z) | z
  · exact n (.inl z)
  · rw [z, hD] at h
    cases h
  · exact n (.inr z), k a o n h⟩
theorem St.withD (s : St K c L σ H e own) (hD : H D = none) {o : HO} (lo : OwO (some o) := by exact .inl ⟨_, rfl⟩) : St K (Tx.withD c D) L σ (upd H D o) e own := by
  have s' := s.ex (s.exSame (Same.new (p := D) (o := o) hD))
  have ge : Ge (Wb c own) H (Wb (Tx.withD c D) own) (upd H D o) := geD hD fun a u _ h => upd_old h hD
  refine ⟨s.len, s'.stay, fun a z => ?_, fun a z => .inl (s.bw a z), s.bs, s.inj, s.out, fun i sl h => ?_⟩
  · rcases z with z | z
    · exact s'.dom a z
    · rw [z, upd_same]; exact lo
  · have q := s.slot i sl h
    have q' := s'.slot i sl h
    cases sl with
    | any => exact q
    | im S g =>
      obtain ⟨h1, v, h2, h3⟩ := q
      exact ⟨h1, v, h2, S.mono ge h3⟩
    | ow S g =>
      obtain ⟨a, us, h1, h2, h3, h4, h5⟩ := q
      refine ⟨a, us, h1, h2, ⟨h3.1, fun z => ?_⟩, upd_old h4 hD, S.pmono ge h5⟩
      rcases z with z | z
      · exact h3.2 z
      · exact s.notD hD i (by rw [h1, z])
    | ox R g =>
      obtain ⟨a, us, h1, h2, h3, h4, h5⟩ := q
      refine ⟨a, us, h1, h2, ⟨h3.1, fun z => ?_⟩, upd_old h4 hD, R.mono ge h5⟩
      rcases z with z | z
      · exact h3.2 z
      · exact s.notD hD i (by rw [h1, z])
    | sr => exact q'
theorem St.putD (s : St K (Tx.withD c D) L σ H e own) (nD : ∀ i, own i ≠ some D) (n0 : c.H0 D = none) {o : HO} (lo : OwO (some o) := by exact .inl ⟨_, rfl⟩) : St K (Tx.withD c D) L σ (upd H D o) e own := by
  have ge : Ge (Wb (Tx.withD c D) own) H (Wb (Tx.withD c D) own) (upd H D o) := fun a u n h => ⟨n, by rw [upd_ne (fun z => n (.inl (.inr z)))]; exact h⟩
  refine ⟨s.len, fun a u nb h => ?_, fun a z => ?_, s.bw, s.bs, s.inj, s.out, fun i sl h => ?_⟩
  · rw [upd_ne (fun z => by rw [z] at h; rw [show (Tx.withD c D).H0 D = none from n0] at h; cases h)]
    exact s.stay a u nb h
  · by_cases z2 : a = D
    · rw [z2, upd_same]; exact lo
    · rw [upd_ne z2]
      exact s.dom a z
  · have q := s.slot i sl h
    cases sl with
    | any => exact q
    | im S g =>
      obtain ⟨h1, v, h2, h3⟩ := q
      exact ⟨h1, v, h2, S.mono ge h3⟩
    | ow S g =>
      obtain ⟨a, us, h1, h2, h3, h4, h5⟩ := q
      exact ⟨a, us, h1, h2, h3, by rw [upd_ne (fun z => nD i (by rw [h1, z]))]; exact h4, S.pmono ge h5⟩
    | ox R g =>
      obtain ⟨a, us, h1, h2, h3, h4, h5⟩ := q
      exact ⟨a, us, h1, h2, h3, by rw [upd_ne (fun z => nD i (by rw [h1, z]))]; exact h4, R.mono ge h5⟩
    | sr =>
      obtain ⟨p, h1, h2, h3, x, y, h4, h5⟩ := q
      exact ⟨p, h1, h2, h3, x, y, by rw [upd_ne (fun z => nD i (by rw [h1, z]))]; exact h4, h5⟩
end
def wComp {E α β : Type} (wt : E × α → (Bool → Prop) → Prop) (we : E × α → (β → Prop) → Prop) : List α → List β → E → (List β → Prop) → Prop
  | [], acc, _, k => k acc
  | x :: xs, acc, e, k => wt (e, x) fun b => if b = true then we (e, x) fun y => wComp wt we xs (acc ++ [y]) e k else wComp wt we xs acc e k
theorem wComp.mono {E α β : Type} {wt : E × α → (Bool → Prop) → Prop} {we : E × α → (β → Prop) → Prop} (ht : Mono wt) (hw : Mono we) : ∀ (xs : List α) (acc : List β) (e : E) (k k' : List β → Prop), (∀ x, k x → k' x) → wComp wt we xs acc e k → wComp wt we xs acc e k'
  | [], acc, e, k, k', h, z => h _ z
  | x :: xs, acc, e, k, k', h, z => ht _ _ _ (fun b hb => by
      cases b
      · exact wComp.mono ht hw xs acc e k k' h hb
      · exact hw _ _ _ (fun y hy => wComp.mono ht hw xs _ e k k' h hy) hb) z
theorem wComp_pure {E α β : Type} {p : E × α → Bool} {f : E × α → β} {e : E} {k : List β → Prop} : ∀ (xs : List α) (acc : List β), wComp (fun q k => k (p q)) (fun q k => k (f q)) xs acc e k = k (acc ++ ((xs.filter fun x => p (e, x)).map fun x => f (e, x)))
  | [], acc => by simp [wComp]
  | x :: xs, acc => by
    show (if p (e, x) = true then wComp _ _ xs (acc ++ [f (e, x)]) e k else wComp _ _ xs acc e k) = _
    by_cases h : p (e, x) = true
    · rw [if_pos h, wComp_pure xs, List.filter_cons_of_pos (p := fun x => p (e, x)) h]
      simp
    · rw [if_neg h, wComp_pure xs, List.filter_cons_of_neg (p := fun x => p (e, x)) h]
section
variable {E α β ι : Type} {X : ι → Cx} {K : PySem.W.Frag} {L : List (Sl E)} {Lin : List (Sl (E × α))} {S : Rp α} {T : Rp β} {elt tg iter : Expr} {ifs : List Expr} {scope : Scope} {bown : List (Str × Nat)} {pos : Pos} {wi : E → (List α → Prop) → Prop}
abbrev BlkI (ι : Type) := ι × Shared × Hp × Addr × List (Str × Addr) × List Addr
abbrev blkF (X : ι → Cx) (scope : Scope) : BlkI ι → Cx := fun p => (X p.1).blk p.2.1 p.2.2.1 scope (compEnvC scope p.2.2.2.2.1 p.2.2.2.1 (X p.1).env) p.2.2.2.2.2
theorem lc_both {is : List Nat} {wt : E × α → (Bool → Prop) → Prop} {we : E × α → (β → Prop) → Prop} (hc : ∀ j, (X j).calm = true) (hN : ∀ j, (X j).N.Nodup) (hi : TIt X K L S tg iter wi) (ok : ∀ j, BlkOk (X j).N (X j).env.scope scope bown)
    (okv : ∀ v ∈ bown.map (·.2), okW L v = true) (his : ∀ i ∈ is, i ∈ bown.map (·.2)) (ht : TGt (blkF X scope) K (wipeL L (bown.map (·.2))) S tg is Lin)
    (htt : ∃ tt, (∀ p, PTs (blkF X scope p) ifs tt) ∧ ∀ (c : Bc) (σ : L2.St) (H : Hp) (env : E × α) (own : Own) (Q : Bool → Hp → Prop), St K c Lin σ H env own → wt env (fun b => ∀ H', Ex Lin own H H' → Q b H') → tt σ H Q) (mt : Mono wt) (he : TX (blkF X scope) K Lin T elt we)
    (hs : ∀ j x, foldedSetIterable iter (X j).env x = pure x := by intro _ _; rfl) : (Mono fun env k => wi env fun xs => xs.length ≤ sizeLine ∧ wComp wt we xs [] env k) ∧ ∃ t, (∀ j, PE (X j) (.ListComp elt [⟨tg, iter, ifs, 0⟩] scope pos) t) ∧
    (∀ (y : Str) (py spos : Pos) (i : Nat), (∀ j, (X j).N[i]? = some y) → (∀ j, (X j).env.scope.names.lookup y = some .local) → (∀ j, swapsWith (.ListComp elt [⟨tg, iter, ifs, 0⟩] scope pos) (some (.Name y py)) spos.line (X j).env = pure true) → ∀ j, PS (X j) (.Assign [.Name y py] (.ListComp elt [⟨tg, iter, ifs, 0⟩] scope pos) spos) (tAsg t (gName i))) ∧
    ∀ (c : Bc) (σ : L2.St) (H : Hp) (env : E) (own : Own) (Q : VK), St K c L σ H env own →
      (wi env fun xs => xs.length ≤ sizeLine ∧ wComp wt we xs [] env fun xs => ∀ l vs H', H l = none → Ex L own H H' → H' l = some (.lst vs) → Paired (T.r K (fun a => Wb c own a ∨ a = l) H') vs xs → Q (.ref l) H') → t σ H Q := by
  obtain ⟨wi', pi, fi⟩ := hi.ex
  obtain ⟨g, pg, fg⟩ := ht.ex
  obtain ⟨tt, pt, ft⟩ := htt
  obtain ⟨te, pe, fe⟩ := he.ex
  refine ⟨fun e k k' h hw => hi.mono _ _ _ (fun xs hx => ⟨hx.1, wComp.mono mt he.mono xs [] e k k' h hx.2⟩) hw, _, fun j => pe_lc (hc j) (hN j) (pi j) (ok j) (fun s H C cl fp => pg (j, s, H, C, cl, fp)) (fun s H C cl fp => pt (j, s, H, C, cl, fp)) (fun s H C cl fp => pe (j, s, H, C, cl, fp)) (hs j), fun y py spos i hi hy hsw j => ps_setLc (hc j) (hN j) (hi j) (hy j) (hsw j) (pi j) (ok j) (fun s H C cl fp => pg (j, s, H, C, cl, fp)) (fun s H C cl fp => pt (j, s, H, C, cl, fp)) (fun s H C cl fp => pe (j, s, H, C, cl, fp)) (hs j), fun c σ H env own Q s hw => ?_⟩
  refine fi c σ H env own _ s (hi.mono _ _ _ (fun xs hx J H1 G Y x1 wk iok D hD => ?_) hw)
  have s1 := s.ex x1
  have nD := s1.notD hD
  have n0 : c.H0 D = none := (s1.fresh0 hD).1
  have nsD : ¬ Sr L own D := fun ⟨i, _, z⟩ => nD i z
  have nWD : ¬ Wb c own D := s1.fresh hD
  have upE : ∀ {H' : Hp} {o : HO}, Ex L own H1 H' → Ex L own H1 (upd H' D o) := fun {H' o} x => by
    refine ⟨fun a u n h => ?_, fun a z => ?_⟩
    · rw [upd_ne (ne_of_none h hD)]
      exact x.st a u n h
    · obtain ⟨p, q, e, r⟩ := x.sr a z
      refine ⟨p, q, ?_, r⟩
      rw [upd_ne (fun w => nsD (by rw [← w]; exact z))]
      exact e
  refine lc_it wk (fun i H' => ∃ accv acc, H' D = some (.lst accv) ∧ Paired (T.r K (Wb (withD c D) own) H') accv acc ∧ acc.length ≤ i ∧ Ex L own H1 H' ∧ St K (withD c D) L σ H' env own ∧
    wComp wt we (xs.drop i) acc env (fun zs => ∀ l vs H', H l = none → Ex L own H H' → H' l = some (.lst vs) → Paired (T.r K (fun a => Wb c own a ∨ a = l) H') vs zs → Q (.ref l) H'))
    ⟨[], [], upd_same, .nil, Nat.le_refl _, upE s1.exRefl, s1.withD hD, hx.2⟩ (fun i H' hi z => iok.g (Wb (withD c D) own) H' (geD hD fun a o n h => by
      obtain ⟨accv, acc, eD, pa, la, x', s', hw'⟩ := z
      exact x'.st a o (fun z => n z.wb) h)) (fun i v H2 H3 hi z y => ?_) (fun H' z => ?_)
  · obtain ⟨accv, acc, eD, pa, la, x', s', hw'⟩ := z
    obtain ⟨k, x, hx', rx⟩ := iok.y _ H2 H3 i v (geD hD fun a o n h => x'.st a o (fun z => n z.wb) h) (fun l hl => s'.fresh hl) hi y
    have ed : xs.drop i = x :: xs.drop (i + 1) := by
      obtain ⟨h1, h2⟩ := List.getElem?_eq_some_iff.mp hx'
      rw [← h2]
      exact List.drop_eq_getElem_cons h1
    rw [ed] at hw'
    have s3 := s'.ex (s'.exSame k)
    have x3 : Ex L own H1 H3 := x'.trans (s'.exSame k)
    have eD3 := k _ _ eD
    refine fg _ (wipe σ (bown.map (·.2))) H3 env own x v _ (s3.wipe okv) rx ?_
    intro σ2 own2 s2 bd
    refine ⟨bd.ag.wiped his, ?_⟩
    have sr2' : ∀ a, Sr Lin own2 a ↔ Sr L own a := fun a => (bd.sr a).trans (Sr.wipe okv a)
    have back : ∀ {G G' : Hp}, Ex Lin own2 G G' → Ex L own G G' := fun {G G'} z => ⟨fun a o n h => z.st a o (fun w => n ((sr2' a).mp w)) h, fun a w => z.sr a ((sr2' a).mpr w)⟩
    refine ft _ σ2 H3 (env, x) own2 _ s2 (mt _ _ _ (fun b hb H4 x4 => ?_) hw')
    have s4 := s3.ex (back x4)
    have eD4 : H4 D = some (.lst accv) := (back x4).st _ _ nsD eD3
    have g4 : Ge (Wb (withD c D) own) H2 (Wb (withD c D) own) H4 := (Ge.same k).trans (back x4).ge
    cases b with
    | false =>
      rw [if_neg Bool.false_ne_true] at hb ⊢
      exact ⟨accv, acc, eD4, T.pmono g4 pa, by omega, x3.trans (back x4), s4, hb⟩
    | true =>
      rw [if_pos rfl] at hb ⊢
      refine fe _ σ2 H4 (env, x) own2 _ (s2.ex x4) (he.mono _ _ _ (fun y hy u H5 x5 r5 => ?_) hb)
      have s5 := s4.ex (back x5)
      have eD5 : H5 D = some (.lst accv) := (back x5).st _ _ nsD eD4
      have lv : accv.length = acc.length := Paired.length pa
      have lx := hx.1
      refine ⟨accv, eD5, by omega, accv ++ [u], acc ++ [y], upd_same, ?_, by simp only [List.length_append, List.length_singleton]; omega, upE (x3.trans ((back x4).trans (back x5))), s5.putD nD n0, hy⟩
      have eqo : ∀ i, own2 i = own i := fun i => by
        by_cases h : i ∈ is
        · have ow : own i = none := by
            have hv := his i h
            have o := okv i hv
            unfold okW at o
            cases q : L[i]? with
            | none => exact s1.out i q
            | some s0 =>
              rw [q] at o
              have q0 := s1.slot i s0 q
              cases s0 with
              | any => exact q0
              | im S g => exact q0.1
              | ow S g => cases o
              | ox R g => cases o
              | sr => cases o
          rw [ow]
          exact bd.no i h
        · exact bd.so i h
      have gD : Ge (Wb (withD c D) own) H5 (Wb (withD c D) own) (upd H5 D (.lst (accv ++ [u]))) := fun a o n h => ⟨n, by rw [upd_ne (fun z => n (.inl (.inr z)))]; exact h⟩
      refine Paired.snoc (T.pmono ((g4.trans (back x5).ge).trans gD) pa) ?_
      refine T.mono ((Ge.less fun a z => ?_).trans gD) r5
      rcases z with z | ⟨i, z⟩
      · exact .inl z
      · exact .inr ⟨i, by rw [eqo]; exact z⟩
  · obtain ⟨accv, acc, eD, pa, la, x', s', hw'⟩ := z
    rw [List.drop_length] at hw'
    refine hw' D accv H' (Ex.none s x1 hD) (x1.trans x') eD (T.pmono (Ge.less fun a z => ?_) pa)
    rcases z with (z | z) | z
    · exact .inl (.inl z)
    · exact .inr z
    · exact .inl (.inr z)
theorem tn_lc {is : List Nat} {wt : E × α → (Bool → Prop) → Prop} {we : E × α → (β → Prop) → Prop} (hc : ∀ j, (X j).calm = true) (hN : ∀ j, (X j).N.Nodup) (hi : TIt X K L S tg iter wi) (ok : ∀ j, BlkOk (X j).N (X j).env.scope scope bown)
    (okv : ∀ v ∈ bown.map (·.2), okW L v = true) (his : ∀ i ∈ is, i ∈ bown.map (·.2)) (ht : TGt (blkF X scope) K (wipeL L (bown.map (·.2))) S tg is Lin)
    (htt : ∃ tt, (∀ p, PTs (blkF X scope p) ifs tt) ∧ ∀ (c : Bc) (σ : L2.St) (H : Hp) (env : E × α) (own : Own) (Q : Bool → Hp → Prop), St K c Lin σ H env own → wt env (fun b => ∀ H', Ex Lin own H H' → Q b H') → tt σ H Q) (mt : Mono wt) (he : TX (blkF X scope) K Lin T elt we)
    (hs : ∀ j x, foldedSetIterable iter (X j).env x = pure x := by intro _ _; rfl) : TN X K L T (.ListComp elt [⟨tg, iter, ifs, 0⟩] scope pos) (fun env k => wi env fun xs => xs.length ≤ sizeLine ∧ wComp wt we xs [] env k) := by
  obtain ⟨m, t, p, _, f⟩ := lc_both hc hN hi ok okv his ht htt mt he hs
  exact ⟨m, t, p, f⟩
/-- a list comprehension that is given a name at once -/
structure TNA {E α : Type} {ι : Type} (X : ι → Cx) (K : PySem.W.Frag) (L : List (Sl E)) (S : Rp α) (s : Stmt) (i : Nat) (w : E → (List α → Prop) → Prop) : Prop where
  mono : Mono w
  ex : ∃ t, (∀ j, PS (X j) s (tAsg t (gName i))) ∧ ∀ (c : Bc) (σ : L2.St) (H : Hp) (env : E) (own : Own) (Q : VK), St K c L σ H env own →
    w env (fun xs => ∀ l vs H', H l = none → Ex L own H H' → H' l = some (.lst vs) → Paired (S.r K (fun a => Wb c own a ∨ a = l) H') vs xs → Q (.ref l) H') → t σ H Q
end
end Tx

/-! rules by values: numbers, texts, lists, tuples -/
namespace Tx
open PySem PySem.Spec PyProof.Rows L2 Gx
section
variable {X : Cx} {K : PySem.W.Frag}
def rSlB (K : PySem.W.Frag) : V → Option Int → Option Int → Hp → VK → Prop := fun x lo hi H Q => ∃ a xs, x = .ref a ∧ SqT K H a xs ∧ (cutV xs lo hi = xs → Q (.ref a) H) ∧ ∀ p, H p = none → Q (.ref p) (upd H p (.tup (cutV xs lo hi)))
theorem sl_tupB : SlR X (rSlB X.K) := by
  intro pins s σ H x v vl vu lo hi sl Q I rx hs pl pu h
  obtain ⟨a, xs, rfl, hx, q1, q2⟩ := h
  by_cases hw : HT.sIx xs.length 0 lo = 0 ∧ HT.sIx xs.length xs.length hi = xs.length
  · cases rx
    obtain ⟨its, r, ht, hz⟩ := I.tuple hx
    have hl : its.toArray.size = xs.length := by rw [List.size_toArray]; exact r.length.symm
    refine ⟨"tuple", _, PyProof.Rows.slot_tuple_getitem.lookup, ht.typeIs, item_whole ht hs pl pu (by rw [hl]; exact hw) ?_⟩
    have e : cutV xs lo hi = xs := by
      unfold cutV
      rw [hw.1, hw.2, List.drop_zero, Nat.sub_zero, List.take_length]
    exact ⟨.ref a, H, I, rfl, q1 e⟩
  · exact sl_tup pins s σ H (.ref a) v vl vu lo hi sl Q I rx hs pl pu ⟨a, xs, rfl, hx, hw, q2⟩
def rCatB (K : PySem.W.Frag) : R2 := fun x y H Q => ∃ a b xs ys, x = .ref a ∧ y = .ref b ∧ SqT K H a xs ∧ SqT K H b ys ∧ xs.length + ys.length ≤ sizeLine ∧ (xs = [] → Q (.ref b) H) ∧ (ys = [] → Q (.ref a) H) ∧ ∀ p, H p = none → Q (.ref p) (upd H p (.tup (xs ++ ys)))
theorem op_catB : OpR X (binaryOp .Add) (rCatB X.K) := by
  intro pins s σ H x y v u Q I rx ry h
  obtain ⟨a, b, xs, ys, rfl, rfl, ha, hb, hz, q1, q2, q3⟩ := h
  by_cases hx : xs = []
  · subst hx
    cases rx
    cases ry
    obtain ⟨its, r1, p1, _⟩ := I.tuple ha
    obtain ⟨its2, r2, p2, _⟩ := I.tuple hb
    have he : its = [] := r1.nil_iff.mpr rfl
    obtain ⟨⟨c1, dd, dt, sl⟩, ho, hc, n, hd⟩ := id p1
    obtain ⟨⟨c2, dd2, dt2, sl2⟩, ho2, hc2, n2, hd2⟩ := id p2
    simp only at hc hd hc2 hd2
    subst hc hd hc2 hd2
    exact concat_meets ⟨_, ho, rfl⟩ ⟨_, ho2, rfl⟩ noFill_tuple_add seq_tuple_add PySem.F.slot_tuple_add PySem.F.entry_tuple_add (PySem.F.args_tuple_add_2 _ _) (add_empty a b its.toArray its2.toArray n n2 dd dd2 sl sl2 (by simp [he])) ⟨ho, ho2, ⟨.ref b, H, I, rfl, q1 rfl⟩⟩
  · exact op_catT pins s σ H (.ref a) (.ref b) v u Q I rx ry ⟨a, b, xs, ys, rfl, rfl, ha, hb, hx, hz, q2, fun _ p hp => q3 p hp⟩
theorem sl_tupBK (h : X.K = K) : SlR X (rSlB K) := h ▸ sl_tupB
theorem op_catBK (h : X.K = K) : OpR X (binaryOp .Add) (rCatB K) := h ▸ op_catB
theorem sl_listK (h : X.K = K) : SlR X (rSlL K) := h ▸ sl_list
end
theorem geNew {W : WS} {H : Hp} {l : Addr} {o : HO} (hl : H l = none) : Ge W H (fun a => W a ∨ a = l) (upd H l o) := fun c u nc hc => by
  refine ⟨fun z => ?_, upd_old hc hl⟩
  rcases z with z | z
  · exact nc z
  · rw [z, hl] at hc
    cases hc
theorem p_str {K : PySem.W.Frag} {W : WS} {H : Hp} : ∀ {vs : List V} {xs : List Str}, Paired (strR.r K W H) vs xs → vs = xs.map V.str
  | _, _, .nil => rfl
  | _, _, .cons h t => by rw [show _ = V.str _ from h, p_str t]; rfl
theorem p_int {K : PySem.W.Frag} {W : WS} {H : Hp} : ∀ {vs : List V} {xs : List Int}, Paired (intR.r K W H) vs xs → vs = xs.map V.int
  | _, _, .nil => rfl
  | _, _, .cons h t => by rw [show _ = V.int _ from h, p_int t]; rfl
theorem p_bool {K : PySem.W.Frag} {W : WS} {H : Hp} : ∀ {vs : List V} {xs : List Bool}, Paired (boolR.r K W H) vs xs → vs = xs.map V.bl
  | _, _, .nil => rfl
  | _, _, .cons h t => by rw [show _ = V.bl _ from h, p_bool t]; rfl
theorem atI_p {α : Type} {R : V → α → Prop} {vs : List V} {xs : List α} {i : Int} {x : α} (p : Paired R vs xs) (h : atI xs i = some x) : ∃ v, atI vs i = some v ∧ R v x := by
  unfold atI at h ⊢
  rw [Paired.length p]
  obtain ⟨j, h1, h2⟩ := Option.bind_eq_some_iff.mp h
  rw [h1]
  have go : ∀ {vs : List V} {xs : List α} {j : Nat}, Paired R vs xs → xs[j]? = some x → ∃ v, vs[j]? = some v ∧ R v x := by
    intro vs xs j p
    induction p generalizing j with
    | nil => intro h; simp at h
    | cons hh t ih =>
      intro hj
      cases j with
      | zero =>
        simp at hj
        subst hj
        exact ⟨_, rfl, hh⟩
      | succ j => exact ih (j := j) (by simpa using hj)
  exact go p h2
def cutL {α : Type} (xs : List α) (lo hi : Option Int) : List α := (xs.drop (HT.sIx xs.length 0 lo)).take (HT.sIx xs.length xs.length hi - HT.sIx xs.length 0 lo)
theorem Paired.tk' {α β : Type} {R : α → β → Prop} : ∀ {xs : List α} {ys : List β} (n : Nat), Paired R xs ys → Paired R (xs.take n) (ys.take n)
  | _, _, 0, _ => .nil
  | _, _, _ + 1, .nil => .nil
  | _, _, n + 1, .cons h t => .cons h (Paired.tk' n t)
theorem Paired.dr' {α β : Type} {R : α → β → Prop} : ∀ {xs : List α} {ys : List β} (n : Nat), Paired R xs ys → Paired R (xs.drop n) (ys.drop n)
  | _, _, 0, h => h
  | _, _, _ + 1, .nil => .nil
  | _, _, n + 1, .cons h t => Paired.dr' n t
theorem Paired.ap' {α β : Type} {R : α → β → Prop} : ∀ {xs as : List α} {ys bs : List β}, Paired R xs ys → Paired R as bs → Paired R (xs ++ as) (ys ++ bs)
  | _, _, _, _, .nil, k => k
  | _, _, _, _, .cons h t, k => .cons h (Paired.ap' t k)
theorem Paired.rv' {α β : Type} {R : α → β → Prop} {xs : List α} {ys : List β} (h : Paired R xs ys) : Paired R xs.reverse ys.reverse := by
  induction h with
  | nil => exact .nil
  | cons h t ih => rw [List.reverse_cons, List.reverse_cons]; exact Paired.ap' ih (.cons h .nil)
theorem cut_p {α : Type} {R : V → α → Prop} {vs : List V} {xs : List α} {lo hi : Option Int} (p : Paired R vs xs) : Paired R (cutV vs lo hi) (cutL xs lo hi) := by
  unfold cutV cutL
  rw [Paired.length p]
  exact Paired.tk' _ (Paired.dr' _ p)
section
variable {α β : Type} {K : PySem.W.Frag} {S : Rp α}
theorem v_ixT : VR2 K (tupR S) intR S (rIxT K) (fun xs i k => ∃ x, atI xs i = some x ∧ k x) := ⟨fun x y k k' h ⟨z, h1, h2⟩ => ⟨z, h1, h _ h2⟩, fun W H xs i v u Q fr r1 r2 ⟨x, hx, q⟩ => by
  obtain ⟨a, vs, rfl, e, p⟩ := r1
  cases r2
  obtain ⟨w, hw, rw'⟩ := atI_p p hx
  exact ⟨a, vs, i, w, rfl, rfl, e.sq, hw, q w H (Same.refl _) rw'⟩⟩
theorem v_ixL : VR2 K (lstR S) intR S (rIxL K) (fun xs i k => ∃ x, atI xs i = some x ∧ k x) := ⟨fun x y k k' h ⟨z, h1, h2⟩ => ⟨z, h1, h _ h2⟩, fun W H xs i v u Q fr r1 r2 ⟨x, hx, q⟩ => by
  obtain ⟨a, vs, rfl, n, e, p⟩ := r1
  cases r2
  obtain ⟨w, hw, rw'⟩ := atI_p p hx
  exact ⟨a, vs, i, w, rfl, rfl, SqL.of e, hw, q w H (Same.refl _) rw'⟩⟩
/-- ints -/
theorem v_I {C : Int → Int → Prop} {f : Int → Int → Int} : VR2 K intR intR intR (rI C fun i j => .int (f i j)) (fun i j k => C i j ∧ k (f i j)) := ⟨fun x y k k' h ⟨z, h2⟩ => ⟨z, h _ h2⟩, fun W H i j v u Q fr r1 r2 ⟨hc, q⟩ => by
  cases r1
  cases r2
  exact ⟨i, j, rfl, rfl, hc, q _ H (Same.refl _) rfl⟩⟩
theorem v_I0 {f : Int → Int → Int} : VR2 K intR intR intR (rI0 fun i j => .int (f i j)) (fun i j k => k (f i j)) := ⟨fun x y k k' h h2 => h _ h2, fun W H i j v u Q fr r1 r2 q => by
  cases r1
  cases r2
  exact ⟨i, j, rfl, rfl, q _ H (Same.refl _) rfl⟩⟩
theorem v_B0 {f : Int → Int → Bool} : VR2 K intR intR boolR (rI0 fun i j => .bl (f i j)) (fun i j k => k (f i j)) := ⟨fun x y k k' h h2 => h _ h2, fun W H i j v u Q fr r1 r2 q => by
  cases r1
  cases r2
  exact ⟨i, j, rfl, rfl, q _ H (Same.refl _) rfl⟩⟩
theorem v_eqS : VR2 K strR strR boolR rEq (fun x y k => k (decide (x = y))) := ⟨fun x y k k' h h2 => h _ h2, fun W H i j v u Q fr r1 r2 q => by
  cases r1
  cases r2
  exact ⟨rfl, q _ H (Same.refl _) (by show V.bl _ = V.bl _; simp)⟩⟩
theorem v_neS : VR2 K strR strR boolR rNe (fun x y k => k (!decide (x = y))) := ⟨fun x y k k' h h2 => h _ h2, fun W H i j v u Q fr r1 r2 q => by
  cases r1
  cases r2
  exact ⟨rfl, q _ H (Same.refl _) (by show V.bl _ = V.bl _; simp)⟩⟩
theorem v_eqI : VR2 K intR intR boolR rEq (fun x y k => k (decide (x = y))) := ⟨fun x y k k' h h2 => h _ h2, fun W H i j v u Q fr r1 r2 q => by
  cases r1
  cases r2
  exact ⟨rfl, q _ H (Same.refl _) (by show V.bl _ = V.bl _; simp)⟩⟩
theorem v_neI : VR2 K intR intR boolR rNe (fun x y k => k (!decide (x = y))) := ⟨fun x y k k' h h2 => h _ h2, fun W H i j v u Q fr r1 r2 q => by
  cases r1
  cases r2
  exact ⟨rfl, q _ H (Same.refl _) (by show V.bl _ = V.bl _; simp)⟩⟩
theorem v_inT : VR2 K strR (tupR strR) boolR (rIn K false) (fun x ys k => k (decide (x ∈ ys))) := ⟨fun x y k k' h h2 => h _ h2, fun W H z ys v u Q fr r1 r2 q => by
  cases r1
  obtain ⟨a, vs, rfl, e, p⟩ := r2
  rw [p_str p] at e
  refine ⟨a, _, rfl, .inr e.sq, rfl, flat_texts ys, q _ H (Same.refl _) ?_⟩
  show V.bl _ = V.bl _
  rw [if_neg Bool.false_ne_true, in_texts]⟩
theorem v_ninT : VR2 K strR (tupR strR) boolR (rIn K true) (fun x ys k => k (!decide (x ∈ ys))) := ⟨fun x y k k' h h2 => h _ h2, fun W H z ys v u Q fr r1 r2 q => by
  cases r1
  obtain ⟨a, vs, rfl, e, p⟩ := r2
  rw [p_str p] at e
  refine ⟨a, _, rfl, .inr e.sq, rfl, flat_texts ys, q _ H (Same.refl _) ?_⟩
  show V.bl _ = V.bl _
  rw [if_pos rfl, in_texts]⟩
theorem v_inL : VR2 K strR (lstR strR) boolR (rIn K false) (fun x ys k => k (decide (x ∈ ys))) := ⟨fun x y k k' h h2 => h _ h2, fun W H z ys v u Q fr r1 r2 q => by
  cases r1
  obtain ⟨a, vs, rfl, n, e, p⟩ := r2
  rw [p_str p] at e
  refine ⟨a, _, rfl, .inl (SqL.of e), rfl, flat_texts ys, q _ H (Same.refl _) ?_⟩
  show V.bl _ = V.bl _
  rw [if_neg Bool.false_ne_true, in_texts]⟩
theorem v_ninL : VR2 K strR (lstR strR) boolR (rIn K true) (fun x ys k => k (!decide (x ∈ ys))) := ⟨fun x y k k' h h2 => h _ h2, fun W H z ys v u Q fr r1 r2 q => by
  cases r1
  obtain ⟨a, vs, rfl, n, e, p⟩ := r2
  rw [p_str p] at e
  refine ⟨a, _, rfl, .inl (SqL.of e), rfl, flat_texts ys, q _ H (Same.refl _) ?_⟩
  show V.bl _ = V.bl _
  rw [if_pos rfl, in_texts]⟩
/-- lists put together -/
theorem v_cat : VN2 K (lstR S) (lstR S) S rCat (fun xs ys k => xs.length + ys.length ≤ sizeLine ∧ k (xs ++ ys)) := ⟨fun x y k k' h h2 => ⟨h2.1, h _ h2.2⟩, fun W H xs ys v u Q fr r1 r2 ⟨hz, q⟩ => by
  obtain ⟨a, vs, rfl, n, e, p⟩ := r1
  obtain ⟨b, us, rfl, n', e', p'⟩ := r2
  refine ⟨a, b, vs, us, rfl, rfl, e, e', by rw [Paired.length p, Paired.length p']; exact hz, fun l hl => q l _ _ hl (Same.new hl) upd_same (S.pmono (geNew hl) (Paired.ap' p p'))⟩⟩
theorem v_catT : VR2 K (tupR S) (tupR S) (tupR S) (rCatB K) (fun xs ys k => xs.length + ys.length ≤ sizeLine ∧ k (xs ++ ys)) := ⟨fun x y k k' h h2 => ⟨h2.1, h _ h2.2⟩, fun W H xs ys v u Q fr r1 r2 ⟨hz, q⟩ => by
  obtain ⟨a, vs, rfl, e, p⟩ := r1
  obtain ⟨b, us, rfl, e', p'⟩ := r2
  refine ⟨a, b, vs, us, rfl, rfl, e.sq, e'.sq, by rw [Paired.length p, Paired.length p']; exact hz, fun z => ?_, fun z => ?_, fun l hl => ?_⟩
  · subst z
    cases p
    exact q _ H (Same.refl _) ⟨b, us, rfl, e', p'⟩
  · subst z
    cases p'
    rw [List.append_nil] at q
    exact q _ H (Same.refl _) ⟨a, vs, rfl, e, p⟩
  · exact q _ _ (Same.new hl) ⟨l, _, rfl, TW.of (fr l hl) upd_same, S.pmono (Ge.same (Same.new hl)) (Paired.ap' p p')⟩⟩
end

/-! ### slices -/
section
variable {E α ι : Type} {X : ι → Cx} {K : PySem.W.Frag} {L : List (Sl E)} {S : Rp α} {e : Expr} {lo hi : Option Expr} {p2 pos : Pos}
structure TO {E ι : Type} (X : ι → Cx) (K : PySem.W.Frag) (L : List (Sl E)) (o : Option Expr) (w : E → (Option Int → Prop) → Prop) : Prop where
  mono : Mono w
  ex : ∃ t, (∀ i, PO (X i) o t) ∧ ∀ (c : Bc) (σ : L2.St) (H : Hp) (env : E) (own : Own) (Q : Option Int → Hp → Prop), St K c L σ H env own → w env (fun x => ∀ H', Ex L own H H' → Q x H') → t σ H Q
theorem to_none : TO X K L none (fun _ k => k none) := ⟨fun _ _ _ h => h _, _, fun _ => po_none, fun c σ H env own Q s hw => hw H s.exRefl⟩
theorem to_some {we : E → (Int → Prop) → Prop} (h : TX X K L intR e we) : TO X K L (some e) (fun env k => we env fun i => k (some i)) := by
  obtain ⟨t, p, f⟩ := h.ex
  exact ⟨fun e k k' hk hw => h.mono _ _ _ (fun x hx => hk _ hx) hw, _, fun i => po_some (p i), fun c σ H env own Q s hw => f c σ H env own _ s (h.mono _ _ _ (fun x hx v H' x' r => ⟨x, r, hx H' x'⟩) hw)⟩
variable {wa : E → (List α → Prop) → Prop} {wl wh : E → (Option Int → Prop) → Prop}
theorem tn_slice (ha : TX X K L (lstR S) e wa) (hl : TO X K L lo wl) (hh : TO X K L hi wh) (hK : ∀ j, (X j).K = K := by intro _; rfl) : TN X K L S (.Subscript e (.Slice lo hi none p2) pos) (fun env k => wa env fun xs => wl env fun l => wh env fun h => k (cutL xs l h)) := by
  obtain ⟨t, p, f⟩ := ha.ex
  obtain ⟨t1, p1, f1⟩ := hl.ex
  obtain ⟨t3, p3, f3⟩ := hh.ex
  refine ⟨fun e k k' hk hw => ha.mono _ _ _ (fun x hx => hl.mono _ _ _ (fun l hll => hh.mono _ _ _ (fun h hhh => hk _ hhh) hll) hx) hw, _, fun i => pe_slice (sl_listK (hK i)) (p i) (p1 i) (p3 i), fun c σ H env own Q s hw => ?_⟩
  refine f c σ H env own _ s (ha.mono _ _ _ (fun xs hx v H1 x1 r => ?_) hw)
  refine f1 c σ H1 env own _ (s.ex x1) (hl.mono _ _ _ (fun l hll H2 x2 => ?_) hx)
  have s2 := (s.ex x1).ex x2
  refine f3 c σ H2 env own _ s2 (hh.mono _ _ _ (fun h hhh H3 x3 => ?_) hll)
  have s3 := s2.ex x3
  obtain ⟨a, vs, rfl, n, e', q⟩ := (lstR S).mono (x2.ge.trans x3.ge) r
  refine ⟨a, vs, rfl, SqL.of e', fun l hl => hhh l _ _ (Ex.none s (x1.trans (x2.trans x3)) hl) (x1.trans (x2.trans (x3.trans (s3.exSame (Same.new hl))))) upd_same (S.pmono (geNew hl) (cut_p q))⟩
theorem tx_sliceT (ha : TX X K L (tupR S) e wa) (hl : TO X K L lo wl) (hh : TO X K L hi wh) (hK : ∀ j, (X j).K = K := by intro _; rfl) : TX X K L (tupR S) (.Subscript e (.Slice lo hi none p2) pos) (fun env k => wa env fun xs => wl env fun l => wh env fun h => k (cutL xs l h)) := by
  obtain ⟨t, p, f⟩ := ha.ex
  obtain ⟨t1, p1, f1⟩ := hl.ex
  obtain ⟨t3, p3, f3⟩ := hh.ex
  refine ⟨fun e k k' hk hw => ha.mono _ _ _ (fun x hx => hl.mono _ _ _ (fun l hll => hh.mono _ _ _ (fun h hhh => hk _ hhh) hll) hx) hw, _, fun i => pe_slice (sl_tupBK (hK i)) (p i) (p1 i) (p3 i), fun c σ H env own Q s hw => ?_⟩
  refine f c σ H env own _ s (ha.mono _ _ _ (fun xs hx v H1 x1 r => ?_) hw)
  refine f1 c σ H1 env own _ (s.ex x1) (hl.mono _ _ _ (fun l hll H2 x2 => ?_) hx)
  have s2 := (s.ex x1).ex x2
  refine f3 c σ H2 env own _ s2 (hh.mono _ _ _ (fun h hhh H3 x3 => ?_) hll)
  have s3 := s2.ex x3
  obtain ⟨a, vs, rfl, e', q⟩ := (tupR S).mono (x2.ge.trans x3.ge) r
  have x13 := x1.trans (x2.trans x3)
  refine ⟨a, vs, rfl, e'.sq, fun z => hhh _ H3 x13 ⟨a, cutV vs l h, rfl, by rw [z]; exact e', cut_p q⟩, fun t ht => hhh _ _ (x13.trans (s3.exSame (Same.new ht))) ⟨t, _, rfl, TW.of (s3.fresh ht) upd_same, S.pmono (Ge.same (Same.new ht)) (cut_p q)⟩⟩
/-- t[::-1] of a tuple -/
theorem tx_revT {k0 : Nat} {q1 q2 q3 : Pos} (ha : TX X K L (tupR S) e wa) (hK : ∀ j, (X j).K = K := by intro _; rfl) : TX X K L (tupR S) (.Subscript e (.Slice none none (some (.UnaryOp .USub (.Constant (.int 1) k0 q1) q2)) q3) pos) (fun env k => wa env fun xs => k xs.reverse) := by
  obtain ⟨t, p, f⟩ := ha.ex
  refine ⟨fun e k k' hk hw => ha.mono _ _ _ (fun x hx => hk _ hx) hw, _, fun i => pe_revTK (hK i) (p i), fun c σ H env own Q s hw => f c σ H env own _ s (ha.mono _ _ _ (fun xs hx v H1 x1 r => ?_) hw)⟩
  obtain ⟨a, vs, rfl, e', q⟩ := r
  have s1 := s.ex x1
  exact ⟨a, vs, rfl, e'.sq, fun t ht => hx _ _ (x1.trans (s1.exSame (Same.new ht))) ⟨t, _, rfl, TW.of (s1.fresh ht) upd_same, S.pmono (Ge.same (Same.new ht)) (Paired.rv' q)⟩⟩
end

/-! ### displays -/
structure LstOf {α τ : Type} (A : Ar τ) (S : Rp α) (f : τ → List α) : Prop where
  p : ∀ {K : PySem.W.Frag} {W : WS} {H : Hp} {P : WS} {vs : List V} {x : τ}, ArOk K W H P A vs x → Paired (S.r K W H) vs (f x)
theorem lo_nil {α : Type} {S : Rp α} : LstOf .nil S (fun _ => []) := ⟨fun h => by rw [show _ = [] from h]; exact .nil⟩
theorem lo_cons {α τ : Type} {S : Rp α} {A : Ar τ} {f : τ → List α} (h : LstOf A S f) : LstOf (.cons S A) S (fun x => x.1 :: f x.2) := ⟨fun ⟨v, us, e, h1, h2⟩ => by rw [e]; exact .cons h1 (h.p h2)⟩
structure TupOf {α τ : Type} (A : Ar τ) (U : Rp α) (f : τ → α) : Prop where
  p : ∀ {K : PySem.W.Frag} {W : WS} {H : Hp} {P : WS} {vs : List V} {x : τ} {a : Addr}, ArOk K W H P A vs x → TW K W H a vs → U.r K W H (.ref a) (f x)
theorem tu_of {α τ : Type} {A : Ar τ} {S : Rp α} {f : τ → List α} (h : LstOf A S f) : TupOf A (tupR S) f := ⟨fun ok e => ⟨_, _, rfl, e, h.p ok⟩⟩
theorem tu_pr {α β : Type} {S : Rp α} {T : Rp β} : TupOf (.cons S (.cons T .nil)) (prR S T) (fun x => (x.1, x.2.1)) := ⟨fun ⟨v, us, e, h1, w, ws, e2, h2, e3⟩ t => by
  subst e e2
  rw [show ws = [] from e3] at t
  exact ⟨_, v, w, rfl, t, h1, h2⟩⟩
theorem tu_tri {α β γ : Type} {S : Rp α} {T : Rp β} {U : Rp γ} : TupOf (.cons S (.cons T (.cons U .nil))) (triR S T U) (fun x => (x.1, x.2.1, x.2.2.1)) := ⟨fun ⟨v, us, e, h1, w, ws, e2, h2, z, zs, e3, h3, e4⟩ t => by
  subst e e2 e3
  rw [show zs = [] from e4] at t
  exact ⟨_, v, w, z, rfl, t, h1, h2, h3⟩⟩
theorem tu_ent : TupOf (.cons strR (.cons (tupR strR) (.cons strR (.cons (tupR strR) .nil)))) entR (fun x => ⟨x.1, x.2.1, x.2.2.1, x.2.2.2.1⟩) := ⟨fun ⟨v, us, e, h1, w, ws, e2, h2, z, zs, e3, h3, y, ys, e4, h4, e5⟩ t => by
  subst e e2 e3 e4
  rw [show ys = [] from e5, show v = V.str _ from h1, show z = V.str _ from h3] at t
  exact ⟨_, w, y, rfl, t, h2, h4⟩⟩
theorem tu_base : TupOf (.cons (tupR strR) (.cons (tupR entR) .nil)) baseR (fun x => ⟨x.1, x.2.1⟩) := ⟨fun ⟨v, us, e, h1, w, ws, e2, h2, e3⟩ t => by
  subst e e2
  rw [show ws = [] from e3] at t
  exact ⟨_, v, w, rfl, t, h1, h2⟩⟩
def noSrc : {τ : Type} → Ar τ → Bool
  | _, .nil => true
  | _, .cons _ A => noSrc A
  | _, .src _ => false
section
variable {E α τ ι : Type} {X : ι → Cx} {K : PySem.W.Frag} {L : List (Sl E)} {S : Rp α} {A : Ar τ} {es : List Expr} {pos : Pos} {wa : E → (τ → Prop) → Prop} {f : τ → List α} {g : τ → α}
theorem tx_tup {x1 : Nat} (ha : TA X K L A es wa) (hu : TupOf A S g) (hn : arn A ≤ 1000 := by decide) : TX X K L S (.Tuple es x1 pos) (fun env k => wa env fun x => k (g x)) := by
  obtain ⟨t, p, h⟩ := ha.ex
  refine ⟨fun e k k' hk hw => ha.mono _ _ _ (fun x hx => hk _ hx) hw, _, fun i => pe_tup (p i), fun c σ H env own Q s hw => h c σ H env own _ s (ha.mono _ _ _ (fun x hx vs H1 x1 ok => ?_) hw)⟩
  have s1 := s.ex x1
  refine ⟨by rw [ok.len]; exact Nat.le_trans hn (by decide), fun t ht => hx _ _ (x1.trans (s1.exSame (Same.new ht))) (hu.p (P := fun _ => True) (ok.imp (Ge.same (Same.new ht)) fun _ _ => trivial) (TW.of (s1.fresh ht) upd_same))⟩
theorem tn_lst (ha : TA X K L A es wa) (hu : LstOf A S f) (hn : arn A ≤ 1000 := by decide) : TN X K L S (.List es pos) (fun env k => wa env fun x => k (f x)) := by
  obtain ⟨t, p, h⟩ := ha.ex
  refine ⟨fun e k k' hk hw => ha.mono _ _ _ (fun x hx => hk _ hx) hw, _, fun i => pe_lst (p i), fun c σ H env own Q s hw => h c σ H env own _ s (ha.mono _ _ _ (fun x hx vs H1 x1 ok => ?_) hw)⟩
  have s1 := s.ex x1
  refine ⟨by rw [ok.len]; exact Nat.le_trans hn (by decide), fun l hl => hx l _ _ (Ex.none s x1 hl) (x1.trans (s1.exSame (Same.new hl))) upd_same (S.pmono (geNew hl) (hu.p ok))⟩
/-! ### built-in functions -/
structure VC {β τ : Type} (K : PySem.W.Frag) (A : Ar τ) (U : Rp β) (r : List V → Hp → VK → Prop) (w : τ → (β → Prop) → Prop) : Prop where
  mono : ∀ x k k', (∀ z, k z → k' z) → w x k → w x k'
  run : ∀ (W : WS) (H : Hp) (x : τ) (vs : List V) (Q : VK), (∀ l, H l = none → ¬ W l) → ArOk K W H (fun _ => True) A vs x → w x (fun z => ∀ v' H', Same H H' → U.r K W H' v' z → Q v' H') → r vs H Q
structure VCN {β τ : Type} (K : PySem.W.Frag) (A : Ar τ) (U : Rp β) (r : List V → Hp → VK → Prop) (w : τ → (List β → Prop) → Prop) : Prop where
  mono : ∀ x k k', (∀ z, k z → k' z) → w x k → w x k'
  run : ∀ (W : WS) (H : Hp) (x : τ) (vs : List V) (Q : VK), (∀ l, H l = none → ¬ W l) → ArOk K W H (fun _ => True) A vs x → w x (fun zs => ∀ l us H', H l = none → Same H H' → H' l = some (.lst us) → Paired (U.r K (fun a => W a ∨ a = l) H') us zs → Q (.ref l) H') → r vs H Q
variable {β : Type} {U : Rp β} {r : List V → Hp → VK → Prop} {e : Expr} {x : Str} {p : Pos}
theorem tx_callB {id : String} {w : τ → (β → Prop) → Prop} (hc : ∀ i, CallR (X i) (.builtin id) r) (hv : VC K A U r w) (hg : ∀ i, Gl (X i) x) (hm : ∀ i, (X i).mg x = none) (hb : bootBuiltins x = some (.builtin id)) (ha : TA X K L A (e :: es) wa) (hn : x ≠ "__name__" := by decide) (hdb : (x == ("__debug__" : Str)) = false := by decide)
    (he : ∀ i, starEach (e :: es) (X i).env = (false, eval e (X i).env) :: starEach es (X i).env := by intro _; rfl) (hpl : ∀ i, (backTo pos (starEach es (X i).env)).any (·.1) = false := by intro _; rfl) : TX X K L U (.Call (.Name x p) (e :: es) [] pos) (fun env k => wa env fun y => w y k) := by
  obtain ⟨t, pt, h⟩ := ha.ex
  refine ⟨fun e k k' hk hw => ha.mono _ _ _ (fun x hx => hv.mono _ _ _ hk hx) hw, _, fun i => pe_callB (hc i) (hg i) (hm i) hb (pt i) hn hdb (he i) (hpl i), fun c σ H env own Q s hw => h c σ H env own _ s (ha.mono _ _ _ (fun y hy vs H1 x1 ok => ?_) hw)⟩
  have s1 := s.ex x1
  exact hv.run _ H1 y vs Q (fun l hl => s1.fresh hl) (ok.imp Ge.refl fun _ _ => trivial) (hv.mono _ _ _ (fun z hz v' H' k' r' => hz v' H' (x1.trans (s1.exSame k')) r') hy)
theorem tx_callTy {T : String} {w : τ → (β → Prop) → Prop} (hc : ∀ i, CallR (X i) (.type T) r) (hv : VC K A U r w) (hg : ∀ i, Gl (X i) x) (hm : ∀ i, (X i).mg x = none) (hb : bootBuiltins x = some (.type T)) (ha : TA X K L A (e :: es) wa) (hn : x ≠ "__name__" := by decide) (hdb : (x == ("__debug__" : Str)) = false := by decide)
    (he : ∀ i, starEach (e :: es) (X i).env = (false, eval e (X i).env) :: starEach es (X i).env := by intro _; rfl) (hpl : ∀ i, (backTo pos (starEach es (X i).env)).any (·.1) = false := by intro _; rfl) : TX X K L U (.Call (.Name x p) (e :: es) [] pos) (fun env k => wa env fun y => w y k) := by
  obtain ⟨t, pt, h⟩ := ha.ex
  refine ⟨fun e k k' hk hw => ha.mono _ _ _ (fun x hx => hv.mono _ _ _ hk hx) hw, _, fun i => pe_callTy (hc i) (hg i) (hm i) hb (pt i) hn hdb (he i) (hpl i), fun c σ H env own Q s hw => h c σ H env own _ s (ha.mono _ _ _ (fun y hy vs H1 x1 ok => ?_) hw)⟩
  have s1 := s.ex x1
  exact hv.run _ H1 y vs Q (fun l hl => s1.fresh hl) (ok.imp Ge.refl fun _ _ => trivial) (hv.mono _ _ _ (fun z hz v' H' k' r' => hz v' H' (x1.trans (s1.exSame k')) r') hy)
theorem tn_callTy {T : String} {w : τ → (List β → Prop) → Prop} (hc : ∀ i, CallR (X i) (.type T) r) (hv : VCN K A U r w) (hg : ∀ i, Gl (X i) x) (hm : ∀ i, (X i).mg x = none) (hb : bootBuiltins x = some (.type T)) (ha : TA X K L A (e :: es) wa) (hn : x ≠ "__name__" := by decide) (hdb : (x == ("__debug__" : Str)) = false := by decide)
    (he : ∀ i, starEach (e :: es) (X i).env = (false, eval e (X i).env) :: starEach es (X i).env := by intro _; rfl) (hpl : ∀ i, (backTo pos (starEach es (X i).env)).any (·.1) = false := by intro _; rfl) : TN X K L U (.Call (.Name x p) (e :: es) [] pos) (fun env k => wa env fun y => w y k) := by
  obtain ⟨t, pt, h⟩ := ha.ex
  refine ⟨fun e k k' hk hw => ha.mono _ _ _ (fun x hx => hv.mono _ _ _ hk hx) hw, _, fun i => pe_callTy (hc i) (hg i) (hm i) hb (pt i) hn hdb (he i) (hpl i), fun c σ H env own Q s hw => h c σ H env own _ s (ha.mono _ _ _ (fun y hy vs H1 x1 ok => ?_) hw)⟩
  have s1 := s.ex x1
  exact hv.run _ H1 y vs Q (fun l hl => s1.fresh hl) (ok.imp Ge.refl fun _ _ => trivial) (hv.mono _ _ _ (fun z hz l us H' n k' e' p' => hz l us H' (Ex.none s x1 n) (x1.trans (s1.exSame k')) e' p') hy)
end
section
variable {α : Type} {K : PySem.W.Frag} {S : Rp α}
def rLenK (K : PySem.W.Frag) : List V → Hp → VK → Prop := fun xs H Q => ∃ x n, xs = [x] ∧ LenV K x H n ∧ Q (.int n) H
theorem call_lenK {X : Cx} (h : X.K = K) : CallR X (.builtin "len") (rLenK K) := h ▸ call_len
theorem vc_lenL : VC K (.cons (lstR S) .nil) intR (rLenK K) (fun x k => k (x.1.length : Int)) := ⟨fun x k k' h h2 => h _ h2, fun W H x vs Q fr ⟨v, us, e, ⟨a, ws, e2, n, h, p⟩, e3⟩ q => by
  subst e e2
  rw [show us = [] from e3]
  exact ⟨_, _, rfl, .inl ⟨ws, SqL.of h, rfl⟩, q _ H (Same.refl _) (by rw [Paired.length p]; rfl)⟩⟩
theorem vc_lenT : VC K (.cons (tupR S) .nil) intR (rLenK K) (fun x k => k (x.1.length : Int)) := ⟨fun x k k' h h2 => h _ h2, fun W H x vs Q fr ⟨v, us, e, ⟨a, ws, e2, h, p⟩, e3⟩ q => by
  subst e e2
  rw [show us = [] from e3]
  exact ⟨_, _, rfl, .inr ⟨ws, h.sq, rfl⟩, q _ H (Same.refl _) (by rw [Paired.length p]; rfl)⟩⟩
theorem vc_lenS : VC K (.cons strR .nil) intR (rLenK K) (fun x k => x.1.length ≤ sizeLine ∧ k (x.1.length : Int)) := ⟨fun x k k' h h2 => ⟨h2.1, h _ h2.2⟩, fun W H x vs Q fr ⟨v, us, e, e2, e3⟩ q => by
  subst e
  rw [show us = [] from e3, show v = V.str _ from e2]
  exact ⟨_, _, rfl, ⟨q.1, rfl⟩, q.2 _ H (Same.refl _) rfl⟩⟩
def rListK (K : PySem.W.Frag) : List V → Hp → VK → Prop := fun xs H Q => ∃ p ys, xs = [.ref p] ∧ (SqL K H p ys ∨ SqT K H p ys) ∧ ∀ l, H l = none → Q (.ref l) (upd H l (.lst ys))
theorem call_listK {X : Cx} (h : X.K = K) : CallR X (.type "list") (rListK K) := h ▸ call_list_of
theorem newL {W : WS} {H : Hp} {l : Addr} {vs us : List V} {xs : List α} (hl : H l = none) (p : Paired (S.r K W H) vs xs) : Paired (S.r K (fun a => W a ∨ a = l) (upd H l (.lst us))) vs xs :=
  S.pmono (geNew hl) p
theorem vc_listL : VCN K (.cons (lstR S) .nil) S (rListK K) (fun x k => k x.1) := ⟨fun x k k' h h2 => h _ h2, fun W H x vs Q fr ⟨v, us, e, ⟨a, ws, e2, n, h, p⟩, e3⟩ q => by
  subst e e2
  rw [show us = [] from e3]
  exact ⟨a, ws, rfl, .inl (SqL.of h), fun l hl => q l _ _ hl (Same.new hl) upd_same (newL hl p)⟩⟩
theorem vc_listT : VCN K (.cons (tupR S) .nil) S (rListK K) (fun x k => k x.1) := ⟨fun x k k' h h2 => h _ h2, fun W H x vs Q fr ⟨v, us, e, ⟨a, ws, e2, h, p⟩, e3⟩ q => by
  subst e e2
  rw [show us = [] from e3]
  exact ⟨a, ws, rfl, .inr h.sq, fun l hl => q l _ _ hl (Same.new hl) upd_same (newL hl p)⟩⟩
theorem vc_tupL : VC K (.cons (lstR S) .nil) (tupR S) (rTupK K) (fun x k => k x.1) := ⟨fun x k k' h h2 => h _ h2, fun W H x vs Q fr ⟨v, us, e, ⟨a, ws, e2, n, h, p⟩, e3⟩ q => by
  subst e e2
  rw [show us = [] from e3]
  exact ⟨a, ws, rfl, .inl ⟨SqL.of h, fun l hl => q _ _ (Same.new hl) ⟨l, ws, rfl, TW.of (fr l hl) upd_same, S.pmono (Ge.same (Same.new hl)) p⟩⟩⟩⟩
theorem vc_tupT : VC K (.cons (tupR S) .nil) (tupR S) (rTupK K) (fun x k => k x.1) := ⟨fun x k k' h h2 => h _ h2, fun W H x vs Q fr ⟨v, us, e, ⟨a, ws, e2, h, p⟩, e3⟩ q => by
  subst e e2
  rw [show us = [] from e3]
  exact ⟨a, ws, rfl, .inr ⟨h.sq, q _ H (Same.refl _) ⟨a, ws, rfl, h, p⟩⟩⟩⟩
end
end Tx

/-! items at written places; tests of comprehensions; sources, menus -/
namespace Tx
open PySem PySem.Spec PyProof.Rows L2 Gx
inductive PtAt {α : Type} : {β : Type} → Pt α → Nat → Rp β → (α → β) → Prop where
  | zero {β : Type} {S : Rp β} {f : α → β} {ps : Pt α} : PtAt (.cons S f ps) 0 S f
  | succ {β γ : Type} {S : Rp β} {f : α → β} {ps : Pt α} {U : Rp γ} {g : α → γ} {n : Nat} : PtAt ps n U g → PtAt (.cons S f ps) (n + 1) U g
theorem PtAt.at_ {α β : Type} {K : PySem.W.Frag} {W : WS} {H : Hp} {x : α} {ps : Pt α} {n : Nat} {U : Rp β} {g : α → β} (h : PtAt ps n U g) : ∀ {vs : List V}, PtOk K W H x ps vs → ∃ v, vs[n]? = some v ∧ U.r K W H v (g x) := by
  induction h with
  | zero =>
    rintro vs ⟨v, us, rfl, h1, h2⟩
    exact ⟨v, rfl, h1⟩
  | succ h ih =>
    rintro vs ⟨v, us, rfl, h1, h2⟩
    exact ih h2
section
variable {E α β ι : Type} {X : ι → Cx} {K : PySem.W.Frag} {L : List (Sl E)} {S : Rp α} {U : Rp β} {a e : Expr} {pos p : Pos} {wa : E → (α → Prop) → Prop}
theorem tx_prj {n j : Nat} {ps : Pt α} {f : α → β} (u : Unp S ps) (hp : PtAt ps n U f) (ha : TX X K L S a wa) (hK : ∀ j, (X j).K = K := by intro _; rfl) : TX X K L U (.Subscript a (.Constant (.int (n : Int)) j p) pos) (fun env k => wa env fun x => k (f x)) := by
  obtain ⟨t, pe, h⟩ := ha.ex
  refine ⟨fun e k k' hk hw => ha.mono _ _ _ (fun x hx => hk _ hx) hw, _, fun i => pe_ix (ix_tupK (hK i)) (pe i) pe_int (fun _ _ => rfl), fun c σ H env own Q s hw => h c σ H env own _ s (ha.mono _ _ _ (fun x hx v H1 x1 r => ?_) hw)⟩
  obtain ⟨b, vs, rfl, h1, h2⟩ := u.at_ r
  obtain ⟨w, h3, h4⟩ := hp.at_ h2
  exact ⟨b, vs, (n : Int), w, rfl, rfl, h1.sq, atI_nat h3, hx w H1 x1 h4⟩
/-- no test, one test, in a comprehension -/
theorem tc_no : (Mono fun (_ : E) (k : Bool → Prop) => k true) ∧ ∃ tt, (∀ p, PTs (X p) [] tt) ∧ ∀ (c : Bc) (σ : L2.St) (H : Hp) (env : E) (own : Own) (Q : Bool → Hp → Prop), St K c L σ H env own → (fun (_ : E) (k : Bool → Prop) => k true) env (fun b => ∀ H', Ex L own H H' → Q b H') → tt σ H Q :=
  ⟨fun _ _ _ h hw => h _ hw, tYes, fun _ => pts_nil, fun c σ H env own Q s hw => hw H s.exRefl⟩
theorem tc_one {wt : E → (Bool → Prop) → Prop} (h : TT X K L e wt) : Mono wt ∧ ∃ tt, (∀ p, PTs (X p) [e] tt) ∧ ∀ (c : Bc) (σ : L2.St) (H : Hp) (env : E) (own : Own) (Q : Bool → Hp → Prop), St K c L σ H env own → wt env (fun b => ∀ H', Ex L own H H' → Q b H') → tt σ H Q := by
  obtain ⟨t, p, f⟩ := h.ex
  exact ⟨h.mono, t, fun j => pts_one (p j), f⟩
end
section
variable {E α β ι : Type} {X : ι → Cx} {K : PySem.W.Frag} {L : List (Sl E)} {Lin : List (Sl (E × α))} {S : Rp α} {T : Rp β} {elt tg iter : Expr} {ifs : List Expr} {scope : Scope} {bown : List (Str × Nat)} {pos : Pos} {wi : E → (List α → Prop) → Prop}
theorem tn_comp {is : List Nat} {wt : E × α → (Bool → Prop) → Prop} {we : E × α → (β → Prop) → Prop} (hc : ∀ j, (X j).calm = true) (hN : ∀ j, (X j).N.Nodup) (hi : TIt X K L S tg iter wi) (ok : ∀ j, BlkOk (X j).N (X j).env.scope scope bown)
    (okv : ∀ v ∈ bown.map (·.2), okW L v = true) (his : ∀ i ∈ is, i ∈ bown.map (·.2)) (ht : TGt (blkF X scope) K (wipeL L (bown.map (·.2))) S tg is Lin)
    (htt : Mono wt ∧ ∃ tt, (∀ p, PTs (blkF X scope p) ifs tt) ∧ ∀ (c : Bc) (σ : L2.St) (H : Hp) (env : E × α) (own : Own) (Q : Bool → Hp → Prop), St K c Lin σ H env own → wt env (fun b => ∀ H', Ex Lin own H H' → Q b H') → tt σ H Q) (he : TX (blkF X scope) K Lin T elt we)
    (hs : ∀ j x, foldedSetIterable iter (X j).env x = pure x := by intro _ _; rfl) : TN X K L T (.ListComp elt [⟨tg, iter, ifs, 0⟩] scope pos) (fun env k => wi env fun xs => xs.length ≤ sizeLine ∧ wComp wt we xs [] env k) := tn_lc hc hN hi ok okv his ht htt.2 htt.1 he hs
theorem tna_comp {y : Str} {py spos : Pos} {i : Nat} {is : List Nat} {wt : E × α → (Bool → Prop) → Prop} {we : E × α → (β → Prop) → Prop} (hc : ∀ j, (X j).calm = true) (hN : ∀ j, (X j).N.Nodup) (hi : TIt X K L S tg iter wi) (ok : ∀ j, BlkOk (X j).N (X j).env.scope scope bown)
    (okv : ∀ v ∈ bown.map (·.2), okW L v = true) (his : ∀ i ∈ is, i ∈ bown.map (·.2)) (ht : TGt (blkF X scope) K (wipeL L (bown.map (·.2))) S tg is Lin)
    (htt : Mono wt ∧ ∃ tt, (∀ p, PTs (blkF X scope p) ifs tt) ∧ ∀ (c : Bc) (σ : L2.St) (H : Hp) (env : E × α) (own : Own) (Q : Bool → Hp → Prop), St K c Lin σ H env own → wt env (fun b => ∀ H', Ex Lin own H H' → Q b H') → tt σ H Q) (he : TX (blkF X scope) K Lin T elt we)
    (hi0 : ∀ j, (X j).N[i]? = some y) (hy : ∀ j, (X j).env.scope.names.lookup y = some .local) (hsw : ∀ j, swapsWith (.ListComp elt [⟨tg, iter, ifs, 0⟩] scope pos) (some (.Name y py)) spos.line (X j).env = pure true)
    (hs : ∀ j x, foldedSetIterable iter (X j).env x = pure x := by intro _ _; rfl) : TNA X K L T (.Assign [.Name y py] (.ListComp elt [⟨tg, iter, ifs, 0⟩] scope pos) spos) i (fun env k => wi env fun xs => xs.length ≤ sizeLine ∧ wComp wt we xs [] env k) := by
  obtain ⟨m, t, _, p, f⟩ := lc_both (pos := pos) hc hN hi ok okv his ht htt.2 htt.1 he hs
  exact ⟨m, t, p y py spos i hi0 hy hsw, f⟩
end
end Tx
namespace Tx
open PySem PySem.Spec PyProof.Rows L2 Gx
/-- closed upwards -/
def up {τ ρ : Type} (w : τ → (ρ → Prop) → Prop) : τ → (ρ → Prop) → Prop := fun x k => ∀ k', (∀ y, k y → k' y) → w x k'
theorem up_mono {τ ρ : Type} {w : τ → (ρ → Prop) → Prop} (x : τ) (k k' : ρ → Prop) (h : ∀ y, k y → k' y) (hw : up w x k) : up w x k' := fun k'' h' => hw k'' fun y hy => h' y (h y hy)
theorem up_self {τ ρ : Type} {w : τ → (ρ → Prop) → Prop} {x : τ} {k : ρ → Prop} (hw : up w x k) : w x k := hw k fun _ h => h
/-- w of a def's body -/
def wT {τ Λ ρ : Type} (l0 : Λ) (wb : τ × Λ → Kn (τ × Λ) ρ → Prop) : τ → (ρ → Prop) → Prop := up fun x k => wb (x, l0) ⟨fun _ => False, k⟩
def wN {τ Λ : Type} (l0 : Λ) (wb : τ × Λ → Kn (τ × Λ) Unit → Prop) : τ → (Unit → Prop) → Prop := up fun x k => wb (x, l0) ⟨fun _ => k (), k⟩
theorem body_wT {τ Λ ρ : Type} {X : Cx} {K : PySem.W.Frag} {A : Ar τ} {R : RetR ρ} {n : Nat} {N : List Str} {L' : List (Sl (τ × Λ))} {body : List Stmt} {wb : τ × Λ → Kn (τ × Λ) ρ → Prop} {vs : List V} {H : Hp} {Q : VK} {E : XK} {l0 : Λ} (hb : TS (fun _ : Unit => X.nox) K R (layA A Prod.fst ++ List.replicate n .any) L' body wb) (one : srs A ≤ 1) (hN : N.length = arn A + n)
    (h : spT K A R (wT l0 wb) vs H Q E) : ∃ t, PSs X body t ∧ t { nx := fun _ H' => Q .non H', rt := Q } (start N vs) H := by
  obtain ⟨W, x, dom, ok, hw⟩ := h
  obtain ⟨t, p, q⟩ := body_T l0 hb one hN (show spT K A R (fun x k => wb (x, l0) ⟨fun _ => False, k⟩) vs H Q E from ⟨W, x, dom, ok, up_self hw⟩)
  exact ⟨t, PSs.nox p, q⟩
theorem body_wN {τ Λ : Type} {X : Cx} {K : PySem.W.Frag} {A : Ar τ} {n : Nat} {N : List Str} {L' : List (Sl (τ × Λ))} {body : List Stmt} {wb : τ × Λ → Kn (τ × Λ) Unit → Prop} {vs : List V} {H : Hp} {Q : VK} {E : XK} {l0 : Λ} (hb : TS (fun _ : Unit => X.nox) K (retI nonR) (layA A Prod.fst ++ List.replicate n .any) L' body wb) (one : srs A ≤ 1) (hN : N.length = arn A + n)
    (h : spT K A (retI nonR) (wN l0 wb) vs H Q E) : ∃ t, PSs X body t ∧ t { nx := fun _ H' => Q .non H', rt := Q } (start N vs) H := by
  obtain ⟨W, x, dom, ok, hw⟩ := h
  obtain ⟨t, p, q⟩ := body_N l0 hb one hN (show spT K A (retI nonR) (fun x k => wb (x, l0) ⟨fun _ => k (), k⟩) vs H Q E from ⟨W, x, dom, ok, up_self hw⟩)
  exact ⟨t, PSs.nox p, q⟩
end Tx

/-! more statements and values -/
namespace Tx
open PySem PySem.Spec PyProof.Rows L2 Gx
theorem Sr.setO {E β : Type} {L : List (Sl E)} {own : Own} {i : Nat} (h : ∃ s0, L[i]? = some s0 ∧ s0 ≠ .sr) {S : Rp β} {g : E → List β} {o : Option Addr} (a : Addr) : Sr (L.set i (.ow S g)) (putO own i o) a ↔ Sr L own a := by
  obtain ⟨s0, h0, n0⟩ := h
  have il := (List.getElem?_eq_some_iff.mp h0).1
  constructor
  · rintro ⟨j, h1, h2⟩
    by_cases z : j = i
    · subst z
      rw [List.getElem?_set_self il] at h1
      cases h1
    · rw [List.getElem?_set_ne (Ne.symm z)] at h1
      rw [putO_ne z] at h2
      exact ⟨j, h1, h2⟩
  · rintro ⟨j, h1, h2⟩
    have z : j ≠ i := fun z => by
      subst z
      rw [h0] at h1
      exact n0 (Option.some.inj h1)
    exact ⟨j, by rw [List.getElem?_set_ne (Ne.symm z)]; exact h1, by rw [putO_ne z]; exact h2⟩
theorem Ex.cong {E E' : Type} {L : List (Sl E)} {L' : List (Sl E')} {own own' : Own} {H H' : Hp} (e : ∀ a, Sr L' own' a ↔ Sr L own a) (x : Ex L own H H') : Ex L' own' H H' := ⟨fun a o n h => x.st a o (fun z => n ((e a).mpr z)) h, fun a z => x.sr a ((e a).mp z)⟩
theorem okI_set {E : Type} {L : List (Sl E)} {i j : Nat} {s : Sl E} (hs : nsr s = true) (h : ∃ s0, L[j]? = some s0 ∧ s0 ≠ .sr) : ∃ s0, (L.set i s)[j]? = some s0 ∧ s0 ≠ .sr := by
  obtain ⟨s0, h0, n0⟩ := h
  by_cases z : j = i
  · subst z
    exact ⟨s, List.getElem?_set_self (List.getElem?_eq_some_iff.mp h0).1, fun z => by rw [z] at hs; cases hs⟩
  · exact ⟨s0, by rw [List.getElem?_set_ne (Ne.symm z)]; exact h0, n0⟩
theorem St.withE {E : Type} {K : PySem.W.Frag} {c : Bc} {L : List (Sl E)} {σ : L2.St} {H H' : Hp} {e : E} {own : Own} {D : Addr} (s : St K c L σ H e own) (hD : H D = none) (x : Ex L own H H') {us : List V} (ho : H' D = some (.lst us)) : St K (Tx.withD c D) L σ H' e own := by
  have s' := s.ex x
  have ge : Ge (Wb c own) H (Wb (Tx.withD c D) own) H' := geD hD fun a u n h => x.st a u (fun z => n z.wb) h
  refine ⟨s.len, s'.stay, fun a z => ?_, fun a z => .inl (s.bw a z), s.bs, s.inj, s.out, fun i sl h => ?_⟩
  · rcases z with z | z
    · exact s'.dom a z
    · exact .lst (by rw [z]; exact ho)
  · have q := s.slot i sl h
    have q' := s'.slot i sl h
    cases sl with
    | any => exact q
    | im S g =>
      obtain ⟨h1, v, h2, h3⟩ := q
      exact ⟨h1, v, h2, S.mono ge h3⟩
    | ow S g =>
      obtain ⟨a, us, h1, h2, h3, h4, h5⟩ := q
      obtain ⟨a', us', h1', _, _, h4', _⟩ := q'
      rw [h1] at h1'
      cases h1'
      refine ⟨a, us, h1, h2, ⟨h3.1, fun z => ?_⟩, ?_, S.pmono ge h5⟩
      · rcases z with z | z
        · exact h3.2 z
        · exact s.notD hD i (by rw [h1, z])
      · refine x.st _ _ (fun ⟨k, hk, ok⟩ => ?_) h4
        have := s.inj i k a h1 ok
        subst this
        rw [h] at hk
        cases hk
    | ox R g =>
      obtain ⟨a, us, h1, h2, h3, h4, h5⟩ := q
      obtain ⟨a', us', h1', _, _, h4', _⟩ := q'
      rw [h1] at h1'
      cases h1'
      refine ⟨a, us, h1, h2, ⟨h3.1, fun z => ?_⟩, ?_, R.mono ge h5⟩
      · rcases z with z | z
        · exact h3.2 z
        · exact s.notD hD i (by rw [h1, z])
      · refine x.st _ _ (fun ⟨k, hk, ok⟩ => ?_) h4
        have := s.inj i k a h1 ok
        subst this
        rw [h] at hk
        cases hk
    | sr => exact q'
section
variable {E α β ρ ι : Type} {X : ι → Cx} {K : PySem.W.Frag} {R : RetR ρ} {L L' : List (Sl E)} {S : Rp α} {T : Rp β} {a b e : Expr} {pos : Pos} {wa : E → (α → Prop) → Prop} {wb : E → (β → Prop) → Prop}
theorem TS1.pre {L0 : List (Sl E)} {s : Stmt} {w : E → Kn E ρ → Prop} (hs : Sub id L0 L) (h : TS1 X K R L L' s w) : TS1 X K R L0 L' s w := by
  obtain ⟨t, p, f⟩ := h.ex
  exact ⟨h.mono, t, p, fun c σ H env own D s hw => f c σ H env _ D (s.sub hs) hw⟩
/-- x, y = a, b -/
theorem ts_parII {i j : Nat} {x y : Str} {px py pt : Pos} {kt k2 pt2} {set : E → α × β → E} (hc : ∀ k, (X k).calm = true) (hN : ∀ k, (X k).N.Nodup) (hi : ∀ k, (X k).N[i]? = some x) (hj : ∀ k, (X k).N[j]? = some y) (hij : i ≠ j)
    (hx : ∀ k, (X k).env.scope.names.lookup x = some .local) (hy : ∀ k, (X k).env.scope.names.lookup y = some .local) (ha : TX X K L S a wa) (hb : TX X K L T b wb) (ok1 : okI L i = true) (ok2 : okI L j = true)
    (hsub : Sub (fun e : E × (α × β) => set e.1 e.2) (((lift (α × β) L).set i (.im S fun e => e.2.1)).set j (.im T fun e => e.2.2)) L')
    (hw : ∀ k, swappedStores [.Tuple [.Name x px, .Name y py] kt pt] (.Tuple [a, b] k2 pt2) (X k).env = pure (some [x, y]))
    (hs : ∀ k, swapsWithSole [.Tuple [.Name x px, .Name y py] kt pt] (.Tuple [a, b] k2 pt2) pos.line (X k).env = pure false := by intro _; rfl)
    (h1 : ∀ k, starEach [a, b] (X k).env = (false, eval a (X k).env) :: starEach [b] (X k).env := by intro _; rfl) (h2 : ∀ k, starEach [b] (X k).env = (false, eval b (X k).env) :: starEach [] (X k).env := by intro _; rfl) :
    TS1 X K R L L' (.Assign [.Tuple [.Name x px, .Name y py] kt pt] (.Tuple [a, b] k2 pt2) pos) (fun env k => wa env fun u => wb env fun v => k.nx (set env (u, v))) := by
  obtain ⟨t1, p1, f1⟩ := ha.ex
  obtain ⟨t2, p2, f2⟩ := hb.ex
  refine ⟨fun e k k' hn _ hw => ha.mono _ _ _ (fun x hx => hb.mono _ _ _ (fun y hy => hn _ hy) hx) hw, _, fun k => ps_par (hc k) (hN k) (hi k) (hj k) hij (hx k) (hy k) (pa_cons (p1 k) (pa_cons (p2 k) pa_nil (h2 k)) (h1 k)) (hw k) (hs k), fun c σ H env own D s hw => ?_⟩
  refine f1 c σ H env own _ s (ha.mono _ _ _ (fun u hu v1 H1 x1 r1 => ?_) hw)
  refine f2 c σ H1 env own _ (s.ex x1) (hb.mono _ _ _ (fun v hv v2 H2 x2 r2 => ?_) hu)
  refine ⟨v1, v2, rfl, ?_⟩
  have s2 := ((s.ex x1).ex x2).lift (u, v)
  have s3 := s2.setI (okI_lift ok1) S (fun e => e.2.1) (S.mono x2.ge r1)
  have s4 := s3.setI (okI_set rfl (okI_lift ok2)) T (fun e => e.2.2) (T.mono (Ge.less fun a z => z.imp id fun ⟨k, q⟩ => by
    by_cases h : k = i
    · subst h
      rw [putO_self] at q
      cases q
    · rw [putO_ne h] at q
      exact ⟨k, q⟩) r2)
  exact hv _ _ _ (s4.sub hsub)
theorem ts_parOI {i j : Nat} {x y : Str} {px py pt : Pos} {kt k2 pt2} {wl : E → (List α → Prop) → Prop} {set : E → List α × β → E} (hc : ∀ k, (X k).calm = true) (hN : ∀ k, (X k).N.Nodup) (hi : ∀ k, (X k).N[i]? = some x) (hj : ∀ k, (X k).N[j]? = some y) (hij : i ≠ j)
    (hx : ∀ k, (X k).env.scope.names.lookup x = some .local) (hy : ∀ k, (X k).env.scope.names.lookup y = some .local) (ha : TN X K L S a wl) (hb : TX X K L T b wb) (ok1 : okI L i = true) (ok2 : okI L j = true)
    (hsub : Sub (fun e : E × (List α × β) => set e.1 e.2) (((lift (List α × β) L).set i (.ow S fun e => e.2.1)).set j (.im T fun e => e.2.2)) L')
    (hw : ∀ k, swappedStores [.Tuple [.Name x px, .Name y py] kt pt] (.Tuple [a, b] k2 pt2) (X k).env = pure (some [x, y]))
    (hs : ∀ k, swapsWithSole [.Tuple [.Name x px, .Name y py] kt pt] (.Tuple [a, b] k2 pt2) pos.line (X k).env = pure false := by intro _; rfl)
    (h1 : ∀ k, starEach [a, b] (X k).env = (false, eval a (X k).env) :: starEach [b] (X k).env := by intro _; rfl) (h2 : ∀ k, starEach [b] (X k).env = (false, eval b (X k).env) :: starEach [] (X k).env := by intro _; rfl) :
    TS1 X K R L L' (.Assign [.Tuple [.Name x px, .Name y py] kt pt] (.Tuple [a, b] k2 pt2) pos) (fun env k => wl env fun u => wb env fun v => k.nx (set env (u, v))) := by
  obtain ⟨t1, p1, f1⟩ := ha.ex
  obtain ⟨t2, p2, f2⟩ := hb.ex
  refine ⟨fun e k k' hn _ hw => ha.mono _ _ _ (fun x hx => hb.mono _ _ _ (fun y hy => hn _ hy) hx) hw, _, fun k => ps_par (hc k) (hN k) (hi k) (hj k) hij (hx k) (hy k) (pa_cons (p1 k) (pa_cons (p2 k) pa_nil (h2 k)) (h1 k)) (hw k) (hs k), fun c σ H env own D s hw => ?_⟩
  refine f1 c σ H env own _ s (ha.mono _ _ _ (fun u hu l vs H1 n x1 e1 r1 => ?_) hw)
  refine f2 (withD c l) σ H1 env own _ (s.withE n x1 e1) (hb.mono _ _ _ (fun v hv v2 H2 x2 r2 => ?_) hu)
  refine ⟨.ref l, v2, rfl, ?_⟩
  have s3 := (s.lift (u, v)).setO (x1.cong fun a => Sr.lift) (okI_lift ok1) S (fun e => e.2.1) n e1 r1
  have s4 := s3.ex (x2.cong fun a => (Sr.setO (okI_lift ok1) a).trans Sr.lift)
  have hT : T.r K (Wb c (putO own i (some l))) H2 v2 v := T.mono (Ge.less fun a z => by
    rcases z with z | ⟨k, q⟩
    · exact .inl (.inl z)
    · by_cases h : k = i
      · subst h
        rw [putO_self] at q
        exact .inl (.inr (Option.some.inj q).symm)
      · rw [putO_ne h] at q
        exact .inr ⟨k, q⟩) r2
  exact hv _ _ _ ((s4.setI (okI_set rfl (okI_lift ok2)) T (fun e => e.2.2) hT).sub hsub)
/-- .. where a name is a cell -/
theorem ts_parOIc {i j : Nat} {x y : Str} {px py pt : Pos} {kt k2 pt2} {wl : E → (List α → Prop) → Prop} {set : E → List α × β → E} (hc : ∀ k, (X k).calm = true) (hN : ∀ k, (X k).N.Nodup) (hi : ∀ k, (X k).N[i]? = some x) (hj : ∀ k, (X k).N[j]? = some y) (hij : i ≠ j)
    (hx : ∀ k, Loc (X k).env.scope x) (hy : ∀ k, Loc (X k).env.scope y) (ha : TN X K L S a wl) (hb : TX X K L T b wb) (ok1 : okI L i = true) (ok2 : okI L j = true)
    (hsub : Sub (fun e : E × (List α × β) => set e.1 e.2) (((lift (List α × β) L).set i (.ow S fun e => e.2.1)).set j (.im T fun e => e.2.2)) L')
    (hw : ∀ k, swappedStores [.Tuple [.Name x px, .Name y py] kt pt] (.Tuple [a, b] k2 pt2) (X k).env = pure none)
    (hK : ∀ k, (X k).K = K := by intro _; rfl) (hf : ∀ k, (X k).fn x = true ∨ (X k).env.scope.names.lookup x = some .local := by intro _; first | exact .inl rfl | exact .inr rfl) (hf2 : ∀ k, (X k).fn y = true ∨ (X k).env.scope.names.lookup y = some .local := by intro _; first | exact .inl rfl | exact .inr rfl)
    (hs : ∀ k, swapsWithSole [.Tuple [.Name x px, .Name y py] kt pt] (.Tuple [a, b] k2 pt2) pos.line (X k).env = pure false := by intro _; rfl)
    (h0 : ∀ k, (assignEach [.Tuple [.Name x px, .Name y py] kt pt] (X k).env).map (·.2) = [assign (.Tuple [.Name x px, .Name y py] kt pt) (X k).env] := by intro _; rfl)
    (hn : ∀ j, (assignEach [.Name x px, .Name y py] (X j).env).length = 2 := by intro _; rfl) (hst : ∀ j, (assignEach [.Name x px, .Name y py] (X j).env).findIdx? (·.1) = none := by intro _; rfl)
    (hp1 : ∀ j, (assignEach [.Name x px, .Name y py] (X j).env).map (·.2) = assign (.Name x px) (X j).env :: (assignEach [.Name y py] (X j).env).map (·.2) := by intro _; rfl) (hp2 : ∀ j, (assignEach [.Name y py] (X j).env).map (·.2) = assign (.Name y py) (X j).env :: (assignEach [] (X j).env).map (·.2) := by intro _; rfl)
    (h1 : ∀ k, starEach [a, b] (X k).env = (false, eval a (X k).env) :: starEach [b] (X k).env := by intro _; rfl) (h2 : ∀ k, starEach [b] (X k).env = (false, eval b (X k).env) :: starEach [] (X k).env := by intro _; rfl) :
    TS1 X K R L L' (.Assign [.Tuple [.Name x px, .Name y py] kt pt] (.Tuple [a, b] k2 pt2) pos) (fun env k => wl env fun u => wb env fun v => k.nx (set env (u, v))) := by
  obtain ⟨t1, p1, f1⟩ := ha.ex
  obtain ⟨t2, p2, f2⟩ := hb.ex
  refine ⟨fun e k k' hn _ hw => ha.mono _ _ _ (fun x hx => hb.mono _ _ _ (fun y hy => hn _ hy) hx) hw, _, fun k => by
    have z := ps_asg (pe_tup (pa_cons (p1 k) (pa_cons (p2 k) pa_nil (h2 k)) (h1 k))) (pg_tup (k := kt) (pos := pt) (hc k) (pgs_cons (pg_name (i := i) (hN k) (hi k) (hx k) (hf k)) (pgs_cons (pg_name (i := j) (hN k) (hj k) (hy k) (hf2 k)) pgs_nil (hp2 k)) (hp1 k)) (hn k) (hst k)) (hs k) (hw k) (h0 k)
    rw [hK k] at z
    exact z, fun c σ H env own D s hw => ?_⟩
  refine f1 c σ H env own _ s (ha.mono _ _ _ (fun u hu l vs H1 n x1 e1 r1 => ?_) hw)
  refine f2 (withD c l) σ H1 env own _ (s.withE n x1 e1) (hb.mono _ _ _ (fun v hv v2 H2 x2 r2 => ?_) hu)
  have s3 := (s.lift (u, v)).setO (x1.cong fun a => Sr.lift) (okI_lift ok1) S (fun e => e.2.1) n e1 r1
  have s4 := s3.ex (x2.cong fun a => (Sr.setO (okI_lift ok1) a).trans Sr.lift)
  have hT : T.r K (Wb c (putO own i (some l))) H2 v2 v := T.mono (Ge.less fun a z => by
    rcases z with z | ⟨k, q⟩
    · exact .inl (.inl z)
    · by_cases h : k = i
      · subst h
        rw [putO_self] at q
        exact .inl (.inr (Option.some.inj q).symm)
      · rw [putO_ne h] at q
        exact .inr ⟨k, q⟩) r2
  refine ⟨by show 2 ≤ sizeLine; decide, fun t ht => ?_⟩
  have s5 := s4.ex (s4.exSame (Same.new (o := .tup [.ref l, v2]) ht))
  refine ⟨t, [.ref l, v2], rfl, SqT.of upd_same, rfl, _, _, rfl, _, _, rfl, rfl, ?_⟩
  exact hv _ _ _ ((s5.setI (okI_set rfl (okI_lift ok2)) T (fun e => e.2.2) (T.mono (Ge.same (Same.new ht)) hT)).sub hsub)
/-- name += e, ints -/
theorem ts_addI {i : Nat} {x : Str} {g : E → Int} {set : E → Int → E} {we : E → (Int → Prop) → Prop} {pos' : Pos} (hL : L[i]? = some (.im intR g)) (hN : ∀ j, (X j).N.Nodup) (hi : ∀ j, (X j).N[i]? = some x) (hx : ∀ j, Loc (X j).env.scope x) (h : TX X K L intR e we) (hl : ∃ s0, (lift Int L)[i]? = some s0 ∧ s0 ≠ .sr)
    (hsub : Sub (fun e : E × Int => set e.1 e.2) ((lift Int L).set i (.im intR Prod.snd)) L') (hf : ∀ j, (X j).fn x = true ∨ (X j).env.scope.names.lookup x = some .local := by intro _; first | exact .inl rfl | exact .inr rfl | assumption) :
    TS1 X K R L L' (.AugAssign (.Name x pos') .Add e pos) (fun env k => we env fun y => k.nx (set env (g env + y))) := by
  obtain ⟨t, p, f⟩ := h.ex
  refine ⟨fun e k k' hn _ hw => h.mono _ _ _ (fun _ hx => hn _ hx) hw, _, fun j => ps_aug (hN j) (hi j) (hx j) (p j) ip_add (hf j), fun c σ H env own D s hw => ?_⟩
  obtain ⟨_, v0, h1, h2⟩ := s.slot i _ hL
  cases h2
  refine ⟨.int (g env), h1, f c σ H env own _ s (h.mono _ _ _ (fun y hy v H' x' r => ?_) hw)⟩
  cases r
  exact ⟨g env, y, rfl, rfl, hy _ H' _ ((((s.ex x').lift (g env + y)).setI hl intR Prod.snd rfl).sub hsub)⟩
/-- xs.pop(e) -/
theorem ts_popAt {i : Nat} {x : Str} {g : E → List α} {set : E → List α → E} {we : E → (Int → Prop) → Prop} {p apos cpos : Pos} (hL : L[i]? = some (.ow S g)) (hN : ∀ j, (X j).N[i]? = some x) (hv : ∀ j, Vis (X j).env.scope x) (h : TX X K L intR e we) (hsub : Sub (fun e : E × List α => set e.1 e.2) ((lift (List α) L).set i (.ow S Prod.snd)) L')
    (hline : (apos.endLine == cpos.line) = true := by rfl) (hK : ∀ j, (X j).K = K := by intro _; rfl) (hse : ∀ j, starEach [e] (X j).env = (false, eval e (X j).env) :: starEach [] (X j).env := by intro _; rfl) (hbase : ∀ j, attributeBase (.Name x p) "pop" (X j).env (eval (.Name x p) (X j).env) = eval (.Name x p) (X j).env := by intro _; rfl)
    (hfew : ∀ j, ((backTo cpos (starEach [e] (X j).env)).all (fun x => !x.1) && (backToKw cpos (keywordEach [] (X j).env)).all (fun x => x.1.isSome) && decide (([e] : List Expr).length + ([] : List Keyword).length + (if ([] : List Keyword).isEmpty then 0 else 1) < 30)) = true := by intro _; rfl)
    (hs : ∀ j, swapsWith (.Call (.Attribute (.Name x p) "pop" apos) [e] [] cpos) none pos.line (X j).env = pure false := by intro _; rfl) (hd : (x == ("__debug__" : Str)) = false := by decide) (hcd : (x == ("__classdict__" : Str)) = false := by decide) :
    TS1 X K R L L' (.Expr (.Call (.Attribute (.Name x p) "pop" apos) [e] [] cpos) pos) (fun env k => we env fun y => (0 ≤ y ∧ y < (g env).length ∧ (g env).length < 2 ^ 62) ∧ k.nx (set env ((g env).eraseIdx y.toNat))) := by
  obtain ⟨t, pe, f⟩ := h.ex
  refine ⟨fun e k k' hn _ hw => h.mono _ _ _ (fun _ hx => ⟨hx.1, hn _ hx.2⟩) hw, _, fun j => by
    have z := ps_expr (pe_bm PySem.F.plainAttrs_list PySem.F.slot_list_pop PySem.F.type_list_pop mt_popAt (pe_var (hN j) (hv j) hd hcd) (pa_cons (pe j) pa_nil (hse j)) (hbase j) (hfew j) hline (hse j)) (hs j)
    rw [hK j] at z
    exact z, fun c σ H env own D s hw => ?_⟩
  obtain ⟨a, vs, h1, h2, h3, h4, h5⟩ := s.slot i _ hL
  refine ⟨.ref a, h2, .inl ⟨rfl, _, SqL.of h4⟩, f c σ H env own _ s (h.mono _ _ _ (fun y hy v H' x' r => ?_) hw)⟩
  have s' := s.ex x'
  obtain ⟨a', vs', h1', h2', h3', h4', h5'⟩ := s'.slot i _ hL
  rw [h1] at h1'
  cases h1'
  cases r
  have ll : vs'.length = (g env).length := Paired.length h5'
  obtain ⟨⟨y0, y1, y2⟩, hy⟩ := hy
  have yl : y.toNat < vs'.length := by omega
  refine ⟨a, vs', y, y.toNat, vs'[y.toNat], rfl, rfl, h4', by omega, by omega, ?_, List.getElem?_eq_getElem yl, ?_⟩
  · unfold seqIndex?
    simp only [show ¬ y < 0 from by omega, if_false]
    rw [if_pos]
    simp only [Bool.and_eq_true, decide_eq_true_eq]
    exact ⟨y0, by omega⟩
  · have er : ∀ {vs : List V} {xs : List α} {n : Nat}, Paired (S.r K (Wb c own) H') vs xs → Paired (S.r K (Wb c own) H') (vs.eraseIdx n) (xs.eraseIdx n) := by
      intro vs xs n q
      induction q generalizing n with
      | nil => exact .nil
      | cons hh tt ih =>
        cases n with
        | zero => exact tt
        | succ n => exact .cons hh (ih (n := n))
    exact hy _ _ _ ((s'.putL hL h1 (er h5')).sub hsub)
/-- the first place of a text in a list -/
def idxS (xs : List Str) (x : Str) : Nat := xs.findIdx fun z => decide (z = x)
theorem tx_index {o x : Expr} {cpos apos : Pos} {wo : E → (List Str → Prop) → Prop} {wx : E → (Str → Prop) → Prop} (ho : TX X K L (lstR strR) o wo) (hx : TX X K L strR x wx) (hK : ∀ j, (X j).K = K := by intro _; rfl)
    (hbase : ∀ j, attributeBase o "index" (X j).env (eval o (X j).env) = eval o (X j).env := by intro _; rfl)
    (hfew : ∀ j, ((backTo cpos (starEach [x] (X j).env)).all (fun x => !x.1) && (backToKw cpos (keywordEach [] (X j).env)).all (fun x => x.1.isSome) && decide (([x] : List Expr).length + ([] : List Keyword).length + (if ([] : List Keyword).isEmpty then 0 else 1) < 30)) = true := by intro _; rfl)
    (hline : (apos.endLine == cpos.line) = true := by rfl) (hse : ∀ j, starEach [x] (X j).env = (false, eval x (X j).env) :: starEach [] (X j).env := by intro _; rfl) :
    TX X K L intR (.Call (.Attribute o "index" apos) [x] [] cpos) (fun env k => wo env fun xs => wx env fun y => y ∈ xs ∧ k (idxS xs y : Int)) := by
  obtain ⟨t1, p1, f1⟩ := ho.ex
  obtain ⟨t2, p2, f2⟩ := hx.ex
  refine ⟨fun e k k' hk hw => ho.mono _ _ _ (fun xs h1 => hx.mono _ _ _ (fun y hy => ⟨hy.1, hk _ hy.2⟩) h1) hw, _, fun j => by
    have z := pe_bm PySem.F.plainAttrs_list PySem.F.slot_list_index PySem.F.type_list_index mt_index (p1 j) (pa_cons (p2 j) pa_nil (hse j)) (hbase j) (hfew j) hline (hse j)
    rw [hK j] at z
    exact z, fun c σ H env own Q s hw => ?_⟩
  refine f1 c σ H env own _ s (ho.mono _ _ _ (fun xs hxs v1 H1 x1 r1 => ?_) hw)
  obtain ⟨a, vs, rfl, n, e1, q1⟩ := r1
  refine ⟨.inl ⟨rfl, _, SqL.of e1⟩, ?_⟩
  refine f2 c σ H1 env own _ (s.ex x1) (hx.mono _ _ _ (fun y hy v2 H2 x2 r2 => ?_) hxs)
  cases r2
  obtain ⟨_, _, e2, n2, e3, q3⟩ := (lstR strR).mono x2.ge (show (lstR strR).r K (Wb c own) H1 (.ref a) xs from ⟨a, vs, rfl, n, e1, q1⟩)
  cases e2
  have ev := p_str q3
  subst ev
  have lt : idxS xs y < xs.length := List.findIdx_lt_length_of_exists ⟨y, hy.1, decide_eq_true rfl⟩
  have at1 : xs[idxS xs y] = y := of_decide_eq_true (List.findIdx_getElem (p := fun z => decide (z = y)) (w := lt))
  refine ⟨a, _, .str y, idxS xs y, .str y, rfl, rfl, SqL.of e3, rfl, ?_, ?_, ?_, fun m z' hm hz => ?_, hy.2 _ H2 (x1.trans x2) rfl⟩
  · rw [List.all_eq_true]
    intro u hu
    obtain ⟨z, _, rfl⟩ := List.mem_map.mp hu
    rfl
  · rw [List.getElem?_map, List.getElem?_eq_getElem lt, at1]
    rfl
  · show eqV (.str y) (.str y) = true
    simp [eqV]
  · rw [List.getElem?_map] at hz
    obtain ⟨z, hz1, rfl⟩ := Option.map_eq_some_iff.mp hz
    obtain ⟨hml, hz2⟩ := List.getElem?_eq_some_iff.mp hz1
    have := List.not_of_lt_findIdx (p := fun z => decide (z = y)) (xs := xs) (i := m) hm
    rw [hz2] at this
    show eqV (.str z) (.str y) = false
    simpa [eqV] using this
/-- xs[::-1] of a list -/
theorem pe_revLK {X : Cx} {K : PySem.W.Frag} (h : X.K = K) {e : Expr} {te : TE} {k : Nat} {p1 p2 p3 pos : Pos} (he : PE X e te) : PE X (.Subscript e (.Slice none none (some (.UnaryOp .USub (.Constant (.int 1) k p1) p2)) p3) pos) (tRevL K te) := h ▸ pe_revL he
theorem tn_revL {k0 : Nat} {q1 q2 q3 : Pos} {wl : E → (List α → Prop) → Prop} (ha : TX X K L (lstR S) e wl) (hK : ∀ j, (X j).K = K := by intro _; rfl) : TN X K L S (.Subscript e (.Slice none none (some (.UnaryOp .USub (.Constant (.int 1) k0 q1) q2)) q3) pos) (fun env k => wl env fun xs => k xs.reverse) := by
  obtain ⟨t, p, f⟩ := ha.ex
  refine ⟨fun e k k' hk hw => ha.mono _ _ _ (fun x hx => hk _ hx) hw, _, fun i => pe_revLK (hK i) (p i), fun c σ H env own Q s hw => f c σ H env own _ s (ha.mono _ _ _ (fun xs hx v H1 x1 r => ?_) hw)⟩
  obtain ⟨a, vs, rfl, n, e', q⟩ := r
  have s1 := s.ex x1
  exact ⟨a, vs, rfl, SqL.of e', fun l hl => hx l _ _ (Ex.none s x1 hl) (x1.trans (s1.exSame (Same.new hl))) upd_same (S.pmono (geNew hl) (Paired.rv' q))⟩
theorem v_addS : VR2 K strR strR strR (fun x y H Q => ∃ i j, x = .str i ∧ y = .str j ∧ i.length + j.length ≤ sizeLine ∧ Q (.str (i ++ j)) H) (fun x y k => x.length + y.length ≤ sizeLine ∧ k (x ++ y)) := ⟨fun x y k k' h h2 => ⟨h2.1, h _ h2.2⟩, fun W H i j v u Q fr r1 r2 ⟨hz, q⟩ => by
  cases r1
  cases r2
  exact ⟨i, j, rfl, rfl, hz, q _ H (Same.refl _) rfl⟩⟩
/-! ### equality of data -/
structure Dat (S : Rp α) (d : α → PyData) (ok : α → Prop) : Prop where
  dp : ∀ {K : PySem.W.Frag} {W : WS} {H : Hp} {v : V} {x : α}, S.r K W H v x → Dp K H v (d x)
  sh : ∀ x, ok x → SeqAt.shaped (d x) = true
theorem v_eqD {d : α → PyData} {ok : α → Prop} (D : Dat S d ok) : VR2 K S S boolR (rEqD K) (fun x y k => ok x ∧ ok y ∧ k (PyData.eqv (d x) (d y))) := ⟨fun x y k k' h h2 => ⟨h2.1, h2.2.1, h _ h2.2.2⟩, fun W H x y v u Q fr r1 r2 ⟨h1, h2, q⟩ =>
  ⟨d x, d y, D.dp r1, D.dp r2, D.sh x h1, D.sh y h2, q _ H (Same.refl _) rfl⟩⟩
theorem v_neD {d : α → PyData} {ok : α → Prop} (D : Dat S d ok) : VR2 K S S boolR (rNeD K) (fun x y k => ok x ∧ ok y ∧ k (!PyData.eqv (d x) (d y))) := ⟨fun x y k k' h h2 => ⟨h2.1, h2.2.1, h _ h2.2.2⟩, fun W H x y v u Q fr r1 r2 ⟨h1, h2, q⟩ =>
  ⟨d x, d y, D.dp r1, D.dp r2, D.sh x h1, D.sh y h2, q _ H (Same.refl _) rfl⟩⟩
theorem tx_neg {we : E → (Int → Prop) → Prop} (h : TX X K L intR e we) : TX X K L intR (.UnaryOp .USub e pos) (fun env k => we env fun i => k (-i)) := by
  obtain ⟨t, p, f⟩ := h.ex
  refine ⟨fun e k k' hk hw => h.mono _ _ _ (fun x hx => hk _ hx) hw, _, fun i => pe_un un_neg (p i), fun c σ H env own Q s hw => f c σ H env own _ s (h.mono _ _ _ (fun i hi v H1 x1 r => ?_) hw)⟩
  cases r
  exact ⟨i, rfl, hi _ H1 x1 rfl⟩
theorem tn_if {c0 : Expr} {wt : E → (Bool → Prop) → Prop} {w1 w2 : E → (List α → Prop) → Prop} (hc : TT X K L c0 wt) (ha : TN X K L S a w1) (hb : TN X K L S b w2) : TN X K L S (.IfExp c0 a b pos) (fun e k => wt e fun x => if x = true then w1 e k else w2 e k) := by
  obtain ⟨t0, p0, f0⟩ := hc.ex
  obtain ⟨t1, p1, f1⟩ := ha.ex
  obtain ⟨t2, p2, f2⟩ := hb.ex
  refine ⟨fun e k k' h hw => hc.mono _ _ _ (fun x hx => ?_) hw, _, fun i => pe_ifExp (p0 i) (p1 i) (p2 i), fun c σ H env own Q s hw => f0 c σ H env own _ s (hc.mono _ _ _ (fun x hx H1 x1 => ?_) hw)⟩
  · cases x
    · exact hb.mono _ _ _ h hx
    · exact ha.mono _ _ _ h hx
  · cases x
    · exact f2 c σ H1 env own _ (s.ex x1) (hb.mono _ _ _ (fun y hy l vs H2 n x2 e' r => hy l vs H2 (Ex.none s x1 n) (x1.trans x2) e' r) hx)
    · exact f1 c σ H1 env own _ (s.ex x1) (ha.mono _ _ _ (fun y hy l vs H2 n x2 e' r => hy l vs H2 (Ex.none s x1 n) (x1.trans x2) e' r) hx)
theorem dp_all {K : PySem.W.Frag} {W : WS} {H : Hp} {S : Rp α} {d : α → PyData} (h : ∀ {v x}, S.r K W H v x → Dp K H v (d x)) : ∀ {vs : List V} {xs : List α}, Paired (S.r K W H) vs xs → DpAll K H vs (xs.map d)
  | _, _, .nil => .nil
  | _, _, .cons r t => .cons (h r) (dp_all h t)
theorem dat_s : Dat strR .str okS := ⟨fun h => by rw [show _ = V.str _ from h]; exact .str _, fun x h => by
  unfold SeqAt.shaped
  rw [Bool.and_eq_true]
  exact ⟨by simp only [PyData.canLay0]; exact h, decide_eq_true (by simp only [PyData.depth]; omega)⟩⟩
theorem dat_ls : Dat (lstR strR) (fun xs => .list (xs.map .str)) (fun xs => ∀ x ∈ xs, okS x) := ⟨fun ⟨a, vs, e, n, h, p⟩ => by
  subst e
  exact .lst (SqL.of h) (dp_all (S := strR) (fun h => dat_s.dp h) p), fun xs h => by
  unfold SeqAt.shaped
  rw [Bool.and_eq_true]
  refine ⟨by simp only [PyData.canLay0]; exact lay_str h, decide_eq_true ?_⟩
  simp only [PyData.depth, depth_str]
  omega⟩
theorem dat_ts : Dat (tupR strR) (fun xs => .tuple (xs.map .str)) (fun xs => ∀ x ∈ xs, okS x) := ⟨fun ⟨a, vs, e, h, p⟩ => by
  subst e
  exact .tup h.sq (dp_all (S := strR) (fun h => dat_s.dp h) p), fun xs h => by
  unfold SeqAt.shaped
  rw [Bool.and_eq_true]
  refine ⟨by simp only [PyData.canLay0]; exact lay_str h, decide_eq_true ?_⟩
  simp only [PyData.depth, depth_str]
  omega⟩
end
end Tx

/-! menus in the typed layer; what raises, where nothing is raised -/
namespace Tx
open PySem PySem.Spec PyProof.Rows L2 Gx

/-- a menu that is there, and stays -/
def menuR : Rp Bs := ⟨fun K W H v b => ∃ m, v = .ref m ∧ ∀ W' H', Ge W H W' H' → IsM K H' m b, fun g ⟨m, e, h⟩ => ⟨m, e, fun W'' H'' g' => h _ _ (g.trans g')⟩⟩
theorem menuR.is {K : PySem.W.Frag} {W : WS} {H : Hp} {v : V} {b : Bs} (h : menuR.r K W H v b) : ∃ m, v = .ref m ∧ IsM K H m b := let ⟨m, e, h⟩ := h; ⟨m, e, h _ _ Ge.refl⟩
/-- what is no list is not owned -/
theorem nl {W W' : WS} {H H' : Hp} (l : ∀ a, W a → OwO (H a)) (g : Ge W H W' H') {a : Addr} {o : HO} (h : H a = some o) (n : ¬ OwO (some o)) : H' a = some o := (g a o (fun z => n (by rw [← h]; exact l a z)) h).2
theorem SqT.ge {K : PySem.W.Frag} {W W' : WS} {H H' : Hp} (l : ∀ a, W a → OwO (H a)) (g : Ge W H W' H') {a : Addr} {xs : List V} (h : SqT K H a xs) : SqT K H' a xs := by
  rcases h with (h | ⟨o, h⟩) | h
  · exact .inl (.inl (nl l g h (by simp [OwO, XoO])))
  · exact .inl (.inr ⟨o, nl l g h (by simp [OwO, XoO])⟩)
  · exact .inr h
theorem SqT.tw {K : PySem.W.Frag} {W : WS} {H : Hp} (l : ∀ a, W a → OwO (H a)) {a : Addr} {xs : List V} (h : SqT K H a xs) : TW K W H a xs := by
  have out : ∀ {o : HO}, H a = some o → ¬ OwO (some o) → ¬ W a := fun {o} e n z => n (by rw [← e]; exact l a z)
  rcases h with (h | ⟨o, h⟩) | h
  · exact .inl ⟨out h (by simp [OwO, XoO]), .inl h⟩
  · exact .inl ⟨out h (by simp [OwO, XoO]), .inr ⟨o, h⟩⟩
  · exact .inr fun G => .inr h
theorem IsM.ge {K : PySem.W.Frag} {W W' : WS} {H H' : Hp} {m : Addr} {b : Bs} (l : ∀ a, W a → OwO (H a)) (g : Ge W H W' H') (h : IsM K H m b) : IsM K H' m b := by
  obtain ⟨dx, t1, t2, d1, d2, d3, k1, k3, h1, h0, h2, h3, h4, h5, h6, h7, h8⟩ := h
  have f : ∀ {kvs : List (Key × V)} {ps : List (Str × List Str)}, TupsAt K H kvs ps → TupsAt K H' kvs ps := fun q => Paired.imp2 (fun _ _ ⟨q, a, e, z⟩ => ⟨q, a, e, SqT.ge l g z⟩) q
  exact ⟨dx, t1, t2, d1, d2, d3, k1, k3, nl l g h1 (by simp [OwO, XoO]), nl l g h0 (by simp [OwO, XoO]), SqT.ge l g h2, SqT.ge l g h3, nl l g h4 (by simp [OwO, XoO]), f h5, nl l g h6 (by simp [OwO, XoO]), nl l g h7 (by simp [OwO, XoO]), f h8⟩
theorem menuR.of {K : PySem.W.Frag} {W : WS} {H : Hp} {m : Addr} {b : Bs} (l : ∀ a, W a → OwO (H a)) (h : IsM K H m b) : menuR.r K W H (.ref m) b := ⟨m, rfl, fun _ _ g => IsM.ge l g h⟩
theorem strsP {K : PySem.W.Frag} {W : WS} {H : Hp} : ∀ {xs : List Str}, Paired (strR.r K W H) (xs.map V.str) xs
  | [] => .nil
  | _ :: xs => .cons rfl (strsP (xs := xs))
section
variable {E α τ ρ : Type} {ι : Type} {X : ι → Cx} {K : PySem.W.Frag} {L L' : List (Sl E)} {S : Rp α} {A : Ar τ} {R : RetR ρ} {e o : Expr} {es : List Expr} {pos p apos : Pos} {w : E → (Bs → Prop) → Prop}
theorem tx_mget {f u : Str} {g : Bs → List Str} (hp : propB K (He.ga K "Menu") f = true) (hg : getB K (He.ga K "Menu") f u = true) (c : Cls K (He.ga K "Menu")) (n : NoAttr K (He.ga K "Menu") u) (hr : ∀ i, Room 2 (X i).A) (hK : ∀ i, (X i).K = K)
    (hf : ∀ {H : Hp} {m : Addr} {b : Bs}, IsM K H m b → ∃ dx fs t, H m = some (.ins (He.ga K "Menu") dx fs) ∧ fs.lookup u = some (.ref t) ∧ SqT K H t ((g b).map V.str))
    (h : TX X K L menuR e w) (hab : ∀ i, attributeBase e f (X i).env (eval e (X i).env) = eval e (X i).env := by intro _; rfl) : TX X K L (tupR strR) (.Attribute e f pos) (fun env k => w env fun b => k (g b)) := by
  obtain ⟨t, p, ft⟩ := h.ex
  refine ⟨fun e k k' hk hw => h.mono _ _ _ (fun x hx => hk _ hx) hw, tProp (He.ga K "Menu") (getSp (He.ga K "Menu") u) [] (fun _ _ _ => False) t, fun i => ?_, fun c0 σ H env own Q s hw => ft c0 σ H env own _ s (h.mono _ _ _ (fun b hb v H1 x1 r => ?_) hw)⟩
  · have z := hK i
    have := @pe_get (X i) (He.ga K "Menu") f u e pos t
    rw [z] at this
    exact this hp hg c n (hr i) (p i) (hab i)
  · have s1 := s.ex x1
    obtain ⟨m, rfl, hM⟩ := menuR.is r
    obtain ⟨dx, fs, t, h1, h2, h3⟩ := hf hM
    exact ⟨m, dx, fs, rfl, h1, m, dx, fs, _, rfl, h1, h2, hb _ H1 x1 ⟨t, _, rfl, SqT.tw (fun a z => s1.hasW z) h3, strsP⟩⟩
theorem m_things {K : PySem.W.Frag} {H : Hp} {m : Addr} {b : Bs} (h : IsM K H m b) : ∃ dx fs t, H m = some (.ins (He.ga K "Menu") dx fs) ∧ fs.lookup ("_things" : Str) = some (.ref t) ∧ SqT K H t (b.things.map V.str) := by
  obtain ⟨dx, t1, t2, d1, d2, d3, k1, k3, h1, h0, h2, h3, h4⟩ := h
  exact ⟨dx, _, t1, h1, rfl, h2⟩
theorem m_weathers {K : PySem.W.Frag} {H : Hp} {m : Addr} {b : Bs} (h : IsM K H m b) : ∃ dx fs t, H m = some (.ins (He.ga K "Menu") dx fs) ∧ fs.lookup ("_weathers" : Str) = some (.ref t) ∧ SqT K H t (b.names.map V.str) := by
  obtain ⟨dx, t1, t2, d1, d2, d3, k1, k3, h1, h0, h2, h3, h4⟩ := h
  exact ⟨dx, _, t2, h1, rfl, h3⟩
/-- what is never reached -/
theorem ts_never {s : Stmt} : TS1 X K R L L' s (fun _ _ => False) := ⟨fun _ _ _ _ _ h => h, fun _ _ _ => False, fun i => ⟨fun _ _ _ _ _ _ h => h.elim⟩, fun _ _ _ _ _ _ _ h => h.elim⟩
end

theorem passNx {X : Cx} : Passes (L2.CX X.prog X.w) X (fun _ _ _ => False) := fun _ _ _ _ _ _ _ h => by
  obtain ⟨_, _, _, _, _, _, _, _, _, _, _, _, h⟩ := h
  exact h.elim
/-- no field of a menu is called so -/
def NoFld (m : Str) : Prop := ∀ t1 t2 d1 d2 d3 : V, List.lookup m [(("_things" : Str), t1), ("_weathers", t2), ("_wishes", d1), ("_back", d2), ("_later", d3)] = none
section
variable {E : Type} {ι : Type} {X : ι → Cx} {K : PySem.W.Frag} {L : List (Sl E)} {e o : Expr} {pos apos : Pos} {wo : E → (Bs → Prop) → Prop} {we : E → (Str → Prop) → Prop} {n : Nat} {m : Str} {sp : Sp} {pl : ι → Sem Bool}
theorem tn_mlist {g : Ent → List Str} (cm : ∀ i, CaM (X i).prog (X i).w (X i).K (X i).mg (X i).base (L2.CX (X i).prog (X i).w) n (He.ga K "Menu") m sp) (hl : NoFld m) (hr : ∀ i, Room n (X i).A)
    (hsp : ∀ (M : Addr) (b : Bs) (en : Ent) (H : Hp) (Q : VK) (E : XK), IsM K H M b → b.names.Nodup → en ∈ b.ws → (∀ p, H p = none → Q (.ref p) (upd H p (.lst ((g en).map V.str)))) → sp [.ref M, .str en.name] H Q E)
    (ho : TX X K L menuR o wo) (ha : TX X K L strR e we)
    (hst : ∀ i, starEach [e] (X i).env = (false, eval e (X i).env) :: starEach [] (X i).env := by intro _; rfl) (hpl : ∀ i, (backTo pos (starEach [] (X i).env)).any (·.1) = false := by intro _; rfl)
    (ht : ∀ i, eval (.Call (.Attribute o m apos) [e] [] pos) (X i).env = (do
      let ov ← eval o (X i).env
      standAt apos.atName
      let (f, first) ← holding [ov] (getMethod ov m (pl i))
      callWith pos f first (backTo pos (starEach [e] (X i).env)) (backToKw pos (keywordEach [] (X i).env))) := by intro _; rfl) :
    TN X K L strR (.Call (.Attribute o m apos) [e] [] pos) (fun env k => wo env fun b => we env fun z => b.names.Nodup ∧ ∃ en ∈ b.ws, en.name = z ∧ k (g en)) := by
  obtain ⟨t1, p1, f1⟩ := ho.ex
  obtain ⟨t2, p2, f2⟩ := ha.ex
  refine ⟨fun e k k' h hw => ho.mono _ _ _ (fun x hx => ha.mono _ _ _ (fun y ⟨nd, en, he, hn, hk⟩ => ⟨nd, en, he, hn, h _ hk⟩) hx) hw, _, fun i => pe_cm (pl := pl i) (cm i) (hr i) passNx (p1 i) (pa_cons (p2 i) pa_nil (hst i)) (hst i) (hpl i) (ht i), fun c σ H env own Q s hw => ?_⟩
  refine f1 c σ H env own _ s (ho.mono _ _ _ (fun b hb v H1 x1 r1 => ?_) hw)
  have s1 := s.ex x1
  obtain ⟨M, rfl, hM⟩ := menuR.is r1
  obtain ⟨dx, q1, q2, d1, d2, d3, k1, k3, h1, _⟩ := hM
  refine ⟨M, dx, _, rfl, h1, hl _ _ _ _ _, ?_⟩
  refine f2 c σ H1 env own _ s1 (ha.mono _ _ _ (fun z hz u H2 x2 r2 => ?_) hb)
  have s2 := s1.ex x2
  obtain ⟨nd, en, he, rfl, hk⟩ := hz
  rw [show u = V.str _ from r2]
  obtain ⟨M', e', hM2⟩ := menuR.is (menuR.mono x2.ge r1)
  cases e'
  refine hsp _ b en _ _ _ hM2 nd he fun p np => hk p _ _ (Ex.none s (x1.trans x2) np) (x1.trans (x2.trans (s2.exSame (Same.new np)))) upd_same strsP
theorem tx_mback (cm : ∀ i, CaM (X i).prog (X i).w (X i).K (X i).mg (X i).base (L2.CX (X i).prog (X i).w) n (He.ga K "Menu") m (spBack K)) (hl : NoFld m) (hr : ∀ i, Room n (X i).A)
    (ho : TX X K L menuR o wo) (ha : TX X K L strR e we)
    (hst : ∀ i, starEach [e] (X i).env = (false, eval e (X i).env) :: starEach [] (X i).env := by intro _; rfl) (hpl : ∀ i, (backTo pos (starEach [] (X i).env)).any (·.1) = false := by intro _; rfl)
    (ht : ∀ i, eval (.Call (.Attribute o m apos) [e] [] pos) (X i).env = (do
      let ov ← eval o (X i).env
      standAt apos.atName
      let (f, first) ← holding [ov] (getMethod ov m (pl i))
      callWith pos f first (backTo pos (starEach [e] (X i).env)) (backToKw pos (keywordEach [] (X i).env))) := by intro _; rfl) :
    TX X K L strR (.Call (.Attribute o m apos) [e] [] pos) (fun env k => wo env fun b => we env fun z => b.names.Nodup ∧ ∃ en ∈ b.ws, en.name = z ∧ k en.back) := by
  obtain ⟨t1, p1, f1⟩ := ho.ex
  obtain ⟨t2, p2, f2⟩ := ha.ex
  refine ⟨fun e k k' h hw => ho.mono _ _ _ (fun x hx => ha.mono _ _ _ (fun y ⟨nd, en, he, hn, hk⟩ => ⟨nd, en, he, hn, h _ hk⟩) hx) hw, _, fun i => pe_cm (pl := pl i) (cm i) (hr i) passNx (p1 i) (pa_cons (p2 i) pa_nil (hst i)) (hst i) (hpl i) (ht i), fun c σ H env own Q s hw => ?_⟩
  refine f1 c σ H env own _ s (ho.mono _ _ _ (fun b hb v H1 x1 r1 => ?_) hw)
  have s1 := s.ex x1
  obtain ⟨M, rfl, hM⟩ := menuR.is r1
  obtain ⟨dx, q1, q2, d1, d2, d3, k1, k3, h1, _⟩ := hM
  refine ⟨M, dx, _, rfl, h1, hl _ _ _ _ _, ?_⟩
  refine f2 c σ H1 env own _ s1 (ha.mono _ _ _ (fun z hz u H2 x2 r2 => ?_) hb)
  obtain ⟨nd, en, he, rfl, hk⟩ := hz
  rw [show u = V.str _ from r2]
  obtain ⟨M', e', hM2⟩ := menuR.is (menuR.mono x2.ge r1)
  cases e'
  exact ⟨_, b, _, rfl, hM2, nd, .inl ⟨en, he, rfl, hk _ H2 (x1.trans x2) rfl⟩⟩
end
/-! ### all, isinstance -/
def rAllK (K : PySem.W.Frag) : List V → Hp → VK → Prop := fun vs H Q => ∃ a bs, vs = [V.ref a] ∧ SqL K H a (List.map V.bl bs) ∧ Q (V.bl (bs.all id)) H
theorem cr_allK {X : Cx} {K : PySem.W.Frag} (h : X.K = K) (hc : X.calm = true) : CallR X (.builtin "all") (rAllK K) := h ▸ cr_all hc
theorem blsP {K : PySem.W.Frag} {W : WS} {H : Hp} : ∀ {vs : List V} {xs : List Bool}, Paired (boolR.r K W H) vs xs → vs = xs.map V.bl
  | _, _, .nil => rfl
  | _, _, .cons h t => by rw [List.map_cons, ← blsP t, show _ = _ from h]
theorem vc_all {K : PySem.W.Frag} : VC K (.cons (lstR boolR) .nil) boolR (rAllK K) (fun x k => k (x.1.all id)) := ⟨fun x k k' h h2 => h _ h2, fun W H x vs Q fr ⟨v, us, e, ⟨a, ws, e2, n, h, p⟩, e3⟩ q => by
  subst e e2
  rw [show us = [] from e3]
  exact ⟨a, x.1, rfl, by rw [← blsP p]; exact SqL.of h, q _ H (Same.refl _) rfl⟩⟩
section
variable {E α : Type} {ι : Type} {X : ι → Cx} {K : PySem.W.Frag} {L : List (Sl E)} {S : Rp α} {e : Expr} {pos p p2 : Pos} {wa : E → (α → Prop) → Prop}
/-- what isinstance says of such values -/
structure IsI (K : PySem.W.Frag) (S : Rp α) (T : String) (g : α → Bool) : Prop where
  run : ∀ {W : WS} {H : Hp} {v : V} {x : α}, S.r K W H v x → ∃ T', TyX K H v T' ∧ PySem.W.kitOne K T' (.type T) = some (g x)
theorem isi_LL : IsI K (lstR S) "list" (fun _ => true) := ⟨fun {W H v x} h => by
  obtain ⟨a, vs, rfl, n, h, p⟩ := h
  exact ⟨_, TyX.base (.lst h), kit_ty (by decide +kernel)⟩⟩
theorem isi_SS : IsI K strR "str" (fun _ => true) := ⟨fun {W H v x} h => by
  obtain rfl := h
  exact ⟨_, TyX.base (.str _), kit_ty (by decide +kernel)⟩⟩
theorem isi_II : IsI K intR "int" (fun _ => true) := ⟨fun {W H v x} h => by
  obtain rfl := h
  exact ⟨_, TyX.base (.int _), kit_ty (by decide +kernel)⟩⟩
theorem isi_TL : IsI K (tupR S) "list" (fun _ => false) := ⟨fun {W H v x} h => by
  obtain ⟨a, vs, rfl, h, p⟩ := h
  exact ⟨_, tyx_tup h.sq, kit_ty (by decide +kernel)⟩⟩
theorem isi_SL : IsI K strR "list" (fun _ => false) := ⟨fun {W H v x} h => by
  obtain rfl := h
  exact ⟨_, TyX.base (.str _), kit_ty (by decide +kernel)⟩⟩
theorem isi_LS : IsI K (lstR S) "str" (fun _ => false) := ⟨fun {W H v x} h => by
  obtain ⟨a, vs, rfl, n, h, p⟩ := h
  exact ⟨_, TyX.base (.lst h), kit_ty (by decide +kernel)⟩⟩
theorem isi_IS : IsI K intR "str" (fun _ => false) := ⟨fun {W H v x} h => by
  obtain rfl := h
  exact ⟨_, TyX.base (.int _), kit_ty (by decide +kernel)⟩⟩
def rIsiK (K : PySem.W.Frag) : List V → Hp → VK → Prop := rIsi K
theorem call_isiK {X : Cx} {K : PySem.W.Frag} (h : X.K = K) : CallR X (.builtin "isinstance") (rIsiK K) := h ▸ call_isi
theorem tx_isi {T : String} {ct : Str} {g : α → Bool} (hv : IsI K S T g) (hK : ∀ i, (X i).K = K) (hg : ∀ i, Gl (X i) "isinstance") (hm : ∀ i, (X i).mg "isinstance" = none) (hg2 : ∀ i, Gl (X i) ct) (hm2 : ∀ i, (X i).mg ct = none) (hb : bootBuiltins "isinstance" = some (.builtin "isinstance")) (hb2 : bootBuiltins ct = some (.type T)) (h : TX X K L S e wa) (hn : ct ≠ "__name__" := by decide) (hd : (ct == ("__debug__" : Str)) = false := by decide)
    (he : ∀ i, starEach [e, .Name ct p2] (X i).env = (false, eval e (X i).env) :: starEach [.Name ct p2] (X i).env := by intro _; rfl) (he2 : ∀ i, starEach [.Name ct p2] (X i).env = (false, eval (.Name ct p2) (X i).env) :: starEach [] (X i).env := by intro _; rfl)
    (hpl : ∀ i, (backTo pos (starEach [.Name ct p2] (X i).env)).any (·.1) = false := by intro _; rfl) :
    TX X K L boolR (.Call (.Name "isinstance" p) [e, .Name ct p2] [] pos) (fun env k => wa env fun x => k (g x)) := by
  obtain ⟨t, pt, f⟩ := h.ex
  refine ⟨fun e k k' hk hw => h.mono _ _ _ (fun x hx => hk _ hx) hw, _, fun i => pe_callB (call_isiK (hK i)) (hg i) (hm i) hb (pa_cons (pt i) (pa_cons (pe_bltn (v := .ty T) (hg2 i) (hm2 i) hb2 rfl hn hd) pa_nil (he2 i)) (he i)) (by decide) (by decide) (he i) (hpl i), fun c σ H env own Q s hw => ?_⟩
  refine f c σ H env own _ s (h.mono _ _ _ (fun x hx v H1 x1 r => ?_) hw)
  obtain ⟨T', h1, h2⟩ := hv.run r
  exact ⟨v, .ty T, T', _, _, rfl, .ty _, h1, h2, hx _ H1 x1 rfl⟩
end
/-! ### what may be None -/
def optR {α : Type} (S : Rp α) : Rp (Option α) := ⟨fun K W H v x => match x with | none => v = .non | some y => S.r K W H v y ∧ v ≠ .non, fun {K W W' H H' v x} g h => match x, h with | none, h => h | some _, h => ⟨S.mono g h.1, h.2⟩⟩
theorem optR.flat {α : Type} {S : Rp α} (f : Flat S) : Flat (optR S) := fun {K W W' H H' v x} h => match x, h with | none, h => h | some _, h => ⟨f h.1, h.2⟩
def NN {α : Type} (S : Rp α) : Prop := ∀ {K : PySem.W.Frag} {W : WS} {H : Hp} {v : V} {x : α}, S.r K W H v x → v ≠ .non
theorem intR.nn : NN intR := fun h e => by
  rw [show _ = _ from h] at e
  cases e
theorem strR.nn : NN strR := fun h e => by
  rw [show _ = _ from h] at e
  cases e
theorem lstR.nn {α : Type} {S : Rp α} : NN (lstR S) := fun ⟨a, vs, h, _⟩ e => by
  rw [h] at e
  cases e
section
variable {E α : Type} {ι : Type} {X : ι → Cx} {K : PySem.W.Frag} {L : List (Sl E)} {S : Rp α} {e : Expr} {pos : Pos} {wa : E → (α → Prop) → Prop}
theorem tx_noneO {j} : TX X K L (optR S) (.Constant .none j pos) (fun _ k => k none) := ⟨fun _ _ _ h => h _, _, fun _ => pe_non, fun c σ H env own Q s hw => hw _ _ s.exRefl rfl⟩
theorem tx_someO (nn : NN S) (h : TX X K L S e wa) : TX X K L (optR S) e (fun env k => wa env fun x => k (some x)) := by
  obtain ⟨t, p, f⟩ := h.ex
  exact ⟨fun e k k' hk hw => h.mono _ _ _ (fun x hx => hk _ hx) hw, t, p, fun c σ H env own Q s hw => f c σ H env own _ s (h.mono _ _ _ (fun x hx v H1 x1 r => hx v H1 x1 ⟨r, nn r⟩) hw)⟩
theorem v_isN : VR2 K (optR S) nonR boolR (fun x y H Q => y = .non ∧ Q (.bl (decide (x = .non))) H) (fun x _ k => k x.isNone) := ⟨fun x y k k' h h2 => h _ h2, fun W H x y v u Q fr h1 h2 q => ⟨h2, by
  cases x with
  | none =>
    rw [show v = V.non from h1]
    exact q _ H (Same.refl _) rfl
  | some z =>
    rw [decide_eq_false h1.2]
    exact q _ H (Same.refl _) rfl⟩⟩
theorem v_notN : VR2 K (optR S) nonR boolR (fun x y H Q => y = .non ∧ Q (.bl (!decide (x = .non))) H) (fun x _ k => k x.isSome) := ⟨fun x y k k' h h2 => h _ h2, fun W H x y v u Q fr h1 h2 q => ⟨h2, by
  cases x with
  | none =>
    rw [show v = V.non from h1]
    exact q _ H (Same.refl _) rfl
  | some z =>
    rw [decide_eq_false h1.2]
    exact q _ H (Same.refl _) rfl⟩⟩
end
end Tx

/-! the laws' draws, as promises over plain values -/
namespace Tx
open PySem PySem.Spec PyProof.Rows L2 Gx

theorem FnOk.imp {P : Program} {w : World} {K : PySem.W.Frag} {mg : Str → Option Value} {base : Heap} {CX : CXT} {k : Nat} {f : Addr} {fd : FuncData} {ps : List Str} {sp sp' : Sp} (h : FnOk P w K mg base CX k f fd ps sp) (i : ∀ vs H Q E, sp' vs H Q E → sp vs H Q E) : FnOk P w K mg base CX k f fd ps sp' :=
  ⟨fun vs H Q E z => h.len vs H Q E (i _ _ _ _ z), fun A outer s H args us vs Q E r e b v z => h.run A outer s H args us vs Q E r e b v (i _ _ _ _ z)⟩
theorem ca_imp {P : Program} {w : World} {K : PySem.W.Frag} {mg : Str → Option Value} {base : Heap} {CX : CXT} {k : Nat} {x : Str} {sp sp' : Sp} (h : Ca P w K mg base CX k x sp) (i : ∀ vs H Q E, sp' vs H Q E → sp vs H Q E) : Ca P w K mg base CX k x sp' := by
  obtain ⟨f, fd, ps, F, b, m, kp⟩ := h.ex
  exact ⟨f, fd, ps, FnOk.imp F i, b, m, kp⟩
section
variable {K : PySem.W.Frag} {α τ : Type} {S : Rp α} {W : WS} {H H' : Hp} {p : Addr} {vs : List V}
/-- the one source stands first -/
theorem bof1 {A : Ar τ} (no : ∀ i, srAt A i → False) {a : Addr} : Bof (.src A) (.ref p :: vs) a ↔ a = p := by
  constructor
  · rintro ⟨i, h1, h2⟩
    cases i with
    | zero =>
      simp at h2
      exact h2.symm
    | succ i => exact (no i h1).elim
  · rintro rfl
    exact ⟨0, rfl, rfl⟩
theorem bof0 {A : Ar τ} (no : ∀ i, srAt A i → False) {a : Addr} : ¬ Bof A vs a := fun ⟨i, h, _⟩ => no i h
theorem bk1 {B : WS} (hB : ∀ a, B a ↔ a = p) (k : Kp p H H') (s : SrcAt H' p) : Bk ⟨H, W, B⟩ H' := ⟨fun a o n h => k a o (fun z => n ((hB a).mpr z)) h, fun a z => by
  rw [(hB a).mp z]
  exact s⟩
theorem bk0 {B : WS} (hB : ∀ a, ¬ B a) (k : Same H H') : Bk ⟨H, W, B⟩ H' := ⟨fun a o _ h => k a o h, fun a z => (hB a z).elim⟩
theorem ge1 (wp : W p) (k : Kp p H H') : Ge W H W H' := fun a o n h => ⟨n, k a o (fun z => n (by rw [z]; exact wp)) h⟩
theorem dom1 (d : ∀ a, W a → OwO (H a)) (k : Kp p H H') (s : SrcAt H' p) : ∀ a, W a → OwO (H' a) := fun a z => by
  by_cases e : a = p
  · obtain ⟨x, y, h, _⟩ := s
    rw [e]
    exact .lst h
  · exact (d a z).st fun o h => k _ _ e h
theorem dom0 (d : ∀ a, W a → OwO (H a)) (k : Same H H') : ∀ a, W a → OwO (H' a) := fun a z => (d a z).st fun o h => k _ _ h
theorem nos0 : ∀ i, srAt (Ar.nil) i → False := fun i h => by cases h
theorem nos1 {A : Ar τ} (no : ∀ i, srAt A i → False) : ∀ i, srAt (Ar.cons S A) i → False := fun i h => by
  cases i with
  | zero => cases h
  | succ i => exact no i h
theorem strsE {vs : List V} {xs : List Str} (h : Paired (strR.r K W H) vs xs) : vs = xs.map V.str := by
  induction h with
  | nil => rfl
  | cons a t ih => rw [List.map_cons, ← ih, show _ = _ from a]
end
/-! ### draw, pick -/
def wDraw : Int × Unit → (Int → Prop) → Prop := fun x k => 0 < x.1 ∧ x.1 < 1073741824 ∧ ∀ r, 0 ≤ r → r < x.1 → k r
theorem wDraw_mono : ∀ x k k', (∀ y, k y → k' y) → wDraw x k → wDraw x k' := fun _ _ _ h ⟨a, b, c⟩ => ⟨a, b, fun r h1 h2 => h _ (c r h1 h2)⟩
theorem b_draw {K : PySem.W.Frag} : ∀ vs H Q E, spT K (.src (.cons intR .nil)) (retI intR) wDraw vs H Q E → spDraw vs H Q E := fun vs H Q E ⟨W, x, d, ⟨p, us, e, ⟨wp, sp⟩, v, us', e2, h, e3⟩, h1, h2, q⟩ => by
  subst e e2
  rw [show us' = [] from e3, show v = V.int _ from h] at *
  refine ⟨p, x.1, rfl, sp, h1, h2, fun r o l1 l2 so => q r l1 l2 _ _ ⟨bk1 (fun a => bof1 (nos1 nos0)) Kp.put (SrcAt.put so), rfl⟩⟩
def wPick {α : Type} : List α × Unit → (α → Prop) → Prop := fun x k => 0 < x.1.length ∧ x.1.length < 1000000 ∧ ∀ y ∈ x.1, k y
theorem wPick_mono {α : Type} : ∀ (x : List α × Unit) k k', (∀ y, k y → k' y) → wPick x k → wPick x k' := fun _ _ _ h ⟨a, b, c⟩ => ⟨a, b, fun r h1 => h _ (c r h1)⟩
theorem Paired.of_mem {α β : Type} {R : α → β → Prop} : ∀ {xs : List α} {ys : List β}, Paired R xs ys → ∀ {x : α}, x ∈ xs → ∃ y ∈ ys, R x y
  | _, _, .nil, x, h => by cases h
  | _, _, .cons a t, x, h => by
    rcases List.mem_cons.mp h with rfl | h
    · exact ⟨_, List.mem_cons_self, a⟩
    · obtain ⟨y, hy, r⟩ := Paired.of_mem t h
      exact ⟨y, List.mem_cons_of_mem _ hy, r⟩
theorem b_pick {K : PySem.W.Frag} {α : Type} {S : Rp α} : ∀ vs H Q E, spT K (.src (.cons (lstR S) .nil)) (retI S) wPick vs H Q E → spPick K vs H Q E := fun vs H Q E ⟨W, x, d, ⟨p, us, e, ⟨wp, sp⟩, v, us', e2, ⟨a, ws, e4, nw, ha, pr⟩, e3⟩, h1, h2, q⟩ => by
  subst e e2 e4
  rw [show us' = [] from e3] at *
  have len := Paired.length pr
  refine ⟨p, _, rfl, sp, .inl ⟨a, ws, rfl, SqL.of ha, by omega, by omega, fun z => nw (by rw [z]; exact wp), fun v o hv so => ?_⟩⟩
  obtain ⟨y, hy, r⟩ := Paired.of_mem pr hv
  exact q y hy _ _ ⟨bk1 (fun a => bof1 (nos1 nos0)) Kp.put (SrcAt.put so), S.mono (ge1 wp Kp.put) r⟩
/-! ### mixed, base, made -/
def wMixed : List Str × Unit → (List Str → Prop) → Prop := fun x k => x.1.length < 1000 ∧ (∀ z ∈ x.1, okS z) ∧ ∀ ys, ys.Perm x.1 → k ys
theorem wMixed_mono : ∀ x k k', (∀ y, k y → k' y) → wMixed x k → wMixed x k' := fun _ _ _ h ⟨a, b, c⟩ => ⟨a, b, fun r h1 => h _ (c r h1)⟩
/-- the things in a drawn sequence, of a tuple that may be a constant of the program -/
def spMixedT (K : PySem.W.Frag) : Sp := fun vs H Q _ => ∃ (p a : Addr) (xs : List Str), vs = [.ref p, .ref a] ∧ SrcAt H p ∧ (SqL K H a (xs.map V.str) ∨ SqT K H a (xs.map V.str)) ∧ xs.length < 1000 ∧ (∀ x ∈ xs, okS x) ∧
  ∀ (H' : Hp) (q : Addr) (ys : List Str), Kp p H H' → SrcAt H' p → H' q = some (.lst (ys.map V.str)) → ys.Perm xs → H q = none → Q (.ref q) H'
theorem old1 {H : Hp} {p l : Addr} (sp : SrcAt H p) (n : H l = none) : l ≠ p := sp.old n
theorem b_mixedT {K : PySem.W.Frag} : ∀ vs H Q E, spT K (.src (.cons (tupR strR) .nil)) (retN strR) wMixed vs H Q E → spMixedT K vs H Q E := fun vs H Q E ⟨W, x, d, ⟨p, us, e, ⟨wp, sp⟩, v, us', e2, ⟨a, ws, e4, ha, pr⟩, e3⟩, h1, h2, q⟩ => by
  subst e e2 e4
  rw [show us' = [] from e3] at *
  rw [strsE pr] at ha
  exact ⟨p, a, x.1, rfl, sp, .inr ha.sq, h1, h2, fun H' l ys k s e pm n => q ys pm _ _ ⟨bk1 (fun a => bof1 (nos1 nos0)) k s, l, _, rfl, n, fun z => sp.old n ((bof1 (nos1 nos0)).mp z), e, strsP⟩⟩
theorem b_mixedL {K : PySem.W.Frag} : ∀ vs H Q E, spT K (.src (.cons (lstR strR) .nil)) (retN strR) wMixed vs H Q E → spMixedT K vs H Q E := fun vs H Q E ⟨W, x, d, ⟨p, us, e, ⟨wp, sp⟩, v, us', e2, ⟨a, ws, e4, nw, ha, pr⟩, e3⟩, h1, h2, q⟩ => by
  subst e e2 e4
  rw [show us' = [] from e3] at *
  rw [strsE pr] at ha
  exact ⟨p, a, x.1, rfl, sp, .inl (SqL.of ha), h1, h2, fun H' l ys k s e pm n => q ys pm _ _ ⟨bk1 (fun a => bof1 (nos1 nos0)) k s, l, _, rfl, n, fun z => sp.old n ((bof1 (nos1 nos0)).mp z), e, strsP⟩⟩
/-! a menu as the laws hold it, from what the draws promise, and back -/
section
variable {K : PySem.W.Frag} {W : WS} {H : Hp}
theorem entR.of (l : ∀ a, W a → OwO (H a)) {v : V} {e : Ent} (h : EAt K H v e) : entR.r K W H v e := by
  obtain ⟨a, w, u, rfl, h1, h2, h3⟩ := h
  exact ⟨a, _, _, rfl, SqT.tw l h1, ⟨w, _, rfl, SqT.tw l h2, strsP⟩, u, _, rfl, SqT.tw l h3, strsP⟩
theorem entR.to {v : V} {e : Ent} (h : entR.r K W H v e) : EAt K H v e := by
  obtain ⟨a, w, u, rfl, h1, ⟨a2, w2, rfl, h2, p2⟩, a3, w3, rfl, h3, p3⟩ := h
  rw [strsE p2] at h2
  rw [strsE p3] at h3
  exact ⟨a, a2, a3, rfl, h1.sq, h2.sq, h3.sq⟩
theorem baseR.of (l : ∀ a, W a → OwO (H a)) {t : Addr} {b : Bs} (h : BaseAt K H t b) : baseR.r K W H (.ref t) b := by
  obtain ⟨th, wt, es, h1, h2, h3, h4⟩ := h
  exact ⟨t, _, _, rfl, SqT.tw l h1, ⟨th, _, rfl, SqT.tw l h2, strsP⟩, wt, es, rfl, SqT.tw l h3, Paired.imp2 (fun _ _ z => entR.of l z) h4⟩
theorem baseR.to {v : V} {b : Bs} (h : baseR.r K W H v b) : ∃ t, v = .ref t ∧ BaseAt K H t b := by
  obtain ⟨a, t, w, rfl, h1, ⟨a2, w2, rfl, h2, p2⟩, a3, w3, rfl, h3, p3⟩ := h
  rw [strsE p2] at h2
  exact ⟨a, rfl, a2, a3, w3, h1.sq, h2.sq, h3.sq, Paired.imp2 (fun _ _ z => entR.to z) p3⟩
end
def wBase : Int × Unit → (Bs → Prop) → Prop := fun x k => 1 ≤ x.1 ∧ x.1 ≤ 5 ∧ ∀ b, WF b → k b
theorem wBase_mono : ∀ x k k', (∀ y, k y → k' y) → wBase x k → wBase x k' := fun _ _ _ h ⟨a, b, c⟩ => ⟨a, b, fun r h1 => h _ (c r h1)⟩
theorem b_base {K : PySem.W.Frag} : ∀ vs H Q E, spT K (.src (.cons intR .nil)) (retI baseR) wBase vs H Q E → spBase K vs H Q E := fun vs H Q E ⟨W, x, d, ⟨p, us, e, ⟨wp, sp⟩, v, us', e2, h, e3⟩, h1, h2, q⟩ => by
  subst e e2
  rw [show us' = [] from e3, show v = V.int _ from h] at *
  exact ⟨p, x.1, rfl, sp, h1, h2, fun H' t b k s hb wf => q b wf _ _ ⟨bk1 (fun a => bof1 (nos1 nos0)) k s, baseR.of (dom1 d k s) hb⟩⟩
def wMade : Bs × Unit → (Bs → Prop) → Prop := fun x k => WF x.1 ∧ k x.1
theorem wMade_mono : ∀ x k k', (∀ y, k y → k' y) → wMade x k → wMade x k' := fun _ _ _ h ⟨a, b⟩ => ⟨a, h _ b⟩
theorem b_made {K : PySem.W.Frag} : ∀ vs H Q E, spT K (.cons baseR .nil) (retI menuR) wMade vs H Q E → spMade K vs H Q E := fun vs H Q E ⟨W, x, d, ⟨v, us, e, h, e2⟩, wf, q⟩ => by
  subst e
  obtain ⟨t, rfl, hb⟩ := baseR.to h
  rw [show us = [] from e2] at *
  exact ⟨t, x.1, rfl, hb, wf, fun H' m k hm n => q _ _ ⟨bk0 (fun a => bof0 (nos1 nos0)) k, menuR.of (dom0 d k) hm⟩⟩
end Tx

namespace K20
open PySem PySem.Spec PyProof.Rows L2 Gx Tx
section
variable {P : Program} {w : World} {K : PySem.W.Frag} {mg : Str → Option Value} {base : Heap}
theorem ca_mixedT (F : Facts K mg) : Ca P w K mg base CX0 2 "_law_mixed" (spMixedT K) := by
  obtain ⟨fd, D⟩ := fun_law_mixed F
  refine ⟨_, fd, ["source", "some"], D.ok sc_law_mixed (fun vs H Q E h => ?_) (fun cdv A outer s H vs Q E hr h => ?_), D.bindsN fun _ _ _ _ _ _ us hl => match us, hl with | [_, _], _ => rfl, g__law_mixed F, D.kp⟩
  · obtain ⟨_, _, _, rfl, _⟩ := h
    rfl
  · have hu := hu_of hr
    skip
    refine ⟨_, PSs.nox (pss_cons (ps_par (i := 2) (j := 3) (by rfl) sc_law_mixed.nd rfl rfl (by decide) rfl rfl (pa_cons (pe_callTy call_list_of (by rfl) (z_list F) (by decide +kernel) (pa_cons (pv 1) pa_nil)) (pa_cons (pe_lst pa_nil) pa_nil)) (by rfl))
    (pss_cons (ps_while PassesOwn.never (pt_cmpR (op_neD hr.units) (pv 2) (pe_lst pa_nil) (nomark _))
      (pss_one (ps_expr (pe_bm PySem.F.plainAttrs_list PySem.F.slot_list_append PySem.F.type_list_append mt_append (pv 3) (pa_cons (pe_bm PySem.F.plainAttrs_list PySem.F.slot_list_pop PySem.F.type_list_pop mt_popAt (pv 2) (pa_cons (pe_ca (ca_law_draw F) (hr.mono (by decide)) rfl pass0 (pa_cons (pv 0) (pa_cons (pe_callB call_len (by rfl) (z_len F) boot_len (pa_cons (pv 2) pa_nil)) pa_nil))) pa_nil)) pa_nil)))))
    (pss_one (ps_ret (pv 3))))), ?_⟩
    obtain ⟨p, a, xs, rfl, hs, hx, few, ok, q⟩ := h
    refine ⟨_, rfl, a, _, rfl, hx, fun l n1 => ?_⟩
    generalize g1 : upd _ l _ = H1
    obtain ⟨k1, e1, _⟩ := laid g1 n1
    refine ⟨(by show 0 ≤ sizeLine; decide), fun f n2 => ?_⟩
    generalize g2 : upd _ f _ = H2
    obtain ⟨k2, e2, _⟩ := laid g2 n2
    have lp : l ≠ p := hs.old n1
    have fp : f ≠ p := (hs.same k1).old n2
    have lf : l ≠ f := fun z => by rw [z, n2] at e1; cases e1
    have n2' : H f = none := none_old k1 n2
    refine ⟨_, _, rfl, ?_⟩
    refine while_by (fun σ H' => ∃ lot found : List Str, σ = [some (.ref p), some (.ref a), some (.ref l), some (.ref f)] ∧ Kp p H H' ∧ SrcAt H' p ∧ H' l = some (.lst (lot.map V.str)) ∧ H' f = some (.lst (found.map V.str)) ∧ (found ++ lot).Perm xs) (fun _ H' => match H' l with | some (.lst ys) => ys.length | _ => 0)
      ⟨xs, [], rfl, Same.kp (k1.trans k2), (hs.same k1).same k2, k2 _ _ e1, e2, by simp⟩ (fun σ H' z => ?_) (fun σ H' Q1 Q2 m c => ?_)
    · obtain ⟨lot, found, rfl, kp, s2, hl, hf, pm⟩ := z
      have okl : ∀ x ∈ lot, okS x := fun x hx => ok x (pm.mem_iff.mp (List.mem_append_right _ hx))
      refine ⟨_, rfl, (by show 0 ≤ sizeLine; decide), fun t nt => ?_⟩
      generalize gt : upd _ t _ = H3
      obtain ⟨kt, et, _⟩ := laid gt nt
      refine ⟨.list (lot.map .str), .list [], .lst (SqL.of (kt _ _ hl)) (dp_strs lot), .lst (SqL.of et) .nil, ?_, by decide +kernel, ?_⟩
      · unfold SeqAt.shaped
        rw [Bool.and_eq_true]
        refine ⟨by simp only [PyData.canLay0]; exact lay_str okl, decide_eq_true ?_⟩
        simp only [PyData.depth, depth_str]
        omega
      refine ⟨_, rfl, ?_⟩
      have s3 := s2.same kt
      have kp3 : Kp p H H3 := kp.trans (Same.kp kt)
      have hl3 := kt _ _ hl
      have hf3 := kt _ _ hf
      cases lot with
      | nil =>
        have e : (!PyData.eqv (.list (([] : List Str).map .str)) (.list [])) = false := by decide +kernel
        rw [e]
        refine ⟨_, rfl, ?_⟩
        rw [List.append_nil] at pm
        exact q _ _ found kp3 s3 hf3 pm n2'
      | cons x0 rest =>
        have e : (!PyData.eqv (.list ((x0 :: rest).map .str)) (.list [])) = true := by simp [PyData.eqv, PyData.eqvAll]
        rw [e]
        have ll : (x0 :: rest).length ≤ xs.length := by rw [← pm.length_eq, List.length_append]; omega
        have ll2 : found.length ≤ xs.length := by rw [← pm.length_eq, List.length_append]; omega
        refine ⟨_, rfl, .inl ⟨rfl, _, SqL.of hf3⟩, ?_⟩
        refine ⟨_, rfl, .inl ⟨rfl, _, SqL.of hl3⟩, ?_⟩
        refine ⟨_, rfl, _, rfl, _, _, rfl, .inl ⟨_, SqL.of hl3, rfl⟩, ?_⟩
        have lm : ((x0 :: rest).map V.str).length = rest.length + 1 := by simp
        refine ⟨p, _, rfl, s3, by rw [lm]; omega, by rw [lm]; simp only [List.length_cons] at ll; omega, fun r o r0 r1 ho => ?_⟩
        rw [lm] at r1
        have rn : r.toNat < (x0 :: rest).length := by simp only [List.length_cons]; omega
        have er : (x0 :: rest)[r.toNat]? = some ((x0 :: rest)[r.toNat]) := List.getElem?_eq_getElem rn
        have s4 : SrcAt (upd H3 p o) p := SrcAt.put ho
        have hl4 : (upd H3 p o) l = some (.lst ((x0 :: rest).map V.str)) := by rw [upd_ne lp]; exact hl3
        have hf4 : (upd H3 p o) f = some (.lst (found.map V.str)) := by rw [upd_ne fp]; exact hf3
        have kp4 : Kp p H (upd H3 p o) := kp3.trans Kp.put
        generalize upd H3 p o = H4 at s4 hl4 hf4 kp4 ⊢
        refine ⟨l, _, r, r.toNat, .str ((x0 :: rest)[r.toNat]), rfl, rfl, hl4, by omega, by simp only [List.length_cons] at ll; omega, ?_, by rw [List.getElem?_map, er]; rfl, ?_⟩
        · rw [lm]
          exact seqIx r0 (by simp only [List.length_cons] at rn; omega)
        have hf5 : (upd H4 l (.lst (((x0 :: rest).map V.str).eraseIdx r.toNat))) f = some (.lst (found.map V.str)) := by rw [upd_ne (Ne.symm lf)]; exact hf4
        refine ⟨f, _, _, rfl, rfl, hf5, by rw [List.length_map]; exact Nat.lt_of_lt_of_le (by omega : found.length < 1000) (by decide), ?_⟩
        have em : ((x0 :: rest).map V.str).eraseIdx r.toNat = ((x0 :: rest).eraseIdx r.toNat).map V.str := erase_map _ _
        have h4n : H l = none := n1
        refine ⟨⟨(x0 :: rest).eraseIdx r.toNat, found ++ [(x0 :: rest)[r.toNat]], rfl, fun b ob nb eb => ?_, ?_, ?_, ?_, ?_⟩, ?_⟩
        · have b1 : b ≠ f := ne_of_none eb n2'
          have b2 : b ≠ l := ne_of_none eb h4n
          rw [upd_ne b1, upd_ne b2]
          exact kp4 _ _ nb eb
        · obtain ⟨u, v, eu, hu⟩ := s4
          exact ⟨u, v, by rw [upd_ne (Ne.symm fp), upd_ne (Ne.symm lp)]; exact eu, hu⟩
        · rw [upd_ne lf, upd_same, em]
        · rw [upd_same, List.map_append]
          rfl
        · rw [List.append_assoc]
          refine List.Perm.trans (List.Perm.append_left found ?_) pm
          exact (perm_erase er).symm
        · show (match (upd _ f _) l with | some (.lst ys) => ys.length | _ => 0) < (match H' l with | some (.lst ys) => ys.length | _ => 0)
          rw [upd_ne lf, upd_same, hl, em]
          simp only [List.length_map, List.length_eraseIdx]
          rw [if_pos rn]
          simp only [List.length_cons]
          omega
    · obtain ⟨v, hv, sz, f⟩ := c
      exact ⟨v, hv, sz, fun l hl => by
        obtain ⟨d, e, h1, h2, h3, h4, k, hk, q⟩ := f l hl
        exact ⟨d, e, h1, h2, h3, h4, k, hk, m _ _ q⟩⟩

end
end K20

namespace Tx
open PySem PySem.Spec PyProof.Rows L2 Gx
theorem hsp_wishes {K : PySem.W.Frag} (M : Addr) (b : Bs) (en : Ent) (H : Hp) (Q : VK) (E : XK) (hM : IsM K H M b) (nd : b.names.Nodup) (he : en ∈ b.ws) (q : ∀ p, H p = none → Q (.ref p) (upd H p (.lst (en.wishes.map V.str)))) : spWishes K [.ref M, .str en.name] H Q E :=
  ⟨M, b, _, rfl, hM, nd, .inl ⟨en, he, rfl, q⟩⟩
theorem hsp_later {K : PySem.W.Frag} (M : Addr) (b : Bs) (en : Ent) (H : Hp) (Q : VK) (E : XK) (hM : IsM K H M b) (nd : b.names.Nodup) (he : en ∈ b.ws) (q : ∀ p, H p = none → Q (.ref p) (upd H p (.lst (en.later.map V.str)))) : spLater K [.ref M, .str en.name] H Q E :=
  ⟨M, b, _, rfl, hM, nd, .inl ⟨en, he, rfl, q⟩⟩
section
variable {E : Type} {ι : Type} {X : ι → Cx} {K : PySem.W.Frag} {L : List (Sl E)} {a b : Expr} {pos : Pos} {wa wb : E → (Bool → Prop) → Prop}
theorem tx_and (ha : TX X K L boolR a wa) (hb : TX X K L boolR b wb) : TX X K L boolR (.BoolOp .And [a, b] pos) (fun env k => wa env fun x => if x = true then wb env k else k false) := by
  obtain ⟨t1, p1, f1⟩ := ha.ex
  obtain ⟨t2, p2, f2⟩ := hb.ex
  refine ⟨fun e k k' h hw => ha.mono _ _ _ (fun x hx => ?_) hw, _, fun i => pe_and (p1 i) (pe_one (p2 i)), fun c σ H env own Q s hw => f1 c σ H env own _ s (ha.mono _ _ _ (fun x hx v H1 x1 r => ?_) hw)⟩
  · cases x
    · exact h _ hx
    · exact hb.mono _ _ _ h hx
  · refine ⟨x, r, ?_⟩
    cases x
    · exact hx _ H1 x1 rfl
    · exact f2 c σ H1 env own _ (s.ex x1) (hb.mono _ _ _ (fun y hy v H2 x2 r => hy v H2 (x1.trans x2) r) hx)
end
end Tx

/-! max, sum, repetition, ranges, places of numbers, items of one's own lists -/
namespace Tx
open PySem PySem.Spec PyProof.Rows L2 Gx
theorem intsP {K : PySem.W.Frag} {W : WS} {H : Hp} : ∀ {vs : List V} {xs : List Int}, Paired (intR.r K W H) vs xs → vs = xs.map V.int
  | _, _, .nil => rfl
  | _, _, .cons h t => by rw [List.map_cons, ← intsP t, show _ = _ from h]
def rMaxK (K : PySem.W.Frag) : List V → Hp → VK → Prop := rMax K
theorem cr_maxK {X : Cx} {K : PySem.W.Frag} (h : X.K = K) (hc : X.calm = true) : CallR X (.builtin "max") (rMaxK K) := h ▸ cr_max hc
theorem vc_max {K : PySem.W.Frag} : VC K (.cons (lstR intR) .nil) intR (rMaxK K) (fun x k => 0 < x.1.length ∧ ∀ m, m ∈ x.1 → (∀ y, y ∈ x.1 → y ≤ m) → k m) := ⟨fun x k k' h h2 => ⟨h2.1, fun m a b => h _ (h2.2 m a b)⟩, fun W H x vs Q fr ⟨v, us, e, ⟨a, ws, e2, n, h, p⟩, e3⟩ q => by
  subst e e2
  rw [show us = [] from e3]
  rw [intsP p] at h
  exact ⟨a, x.1, rfl, SqL.of h, q.1, fun m hm hx => q.2 m hm hx _ H (Same.refl _) rfl⟩⟩
def rSumK (K : PySem.W.Frag) : List V → Hp → VK → Prop := rSum K
theorem cr_sumK {X : Cx} {K : PySem.W.Frag} (h : X.K = K) (hc : X.calm = true) : CallR X (.builtin "sum") (rSumK K) := h ▸ cr_sum hc
theorem vc_sum {K : PySem.W.Frag} : VC K (.cons (lstR intR) .nil) intR (rSumK K) (fun x k => k x.1.sum) := ⟨fun x k k' h h2 => h _ h2, fun W H x vs Q fr ⟨v, us, e, ⟨a, ws, e2, n, h, p⟩, e3⟩ q => by
  subst e e2
  rw [show us = [] from e3]
  rw [intsP p] at h
  exact ⟨a, x.1, rfl, SqL.of h, q _ H (Same.refl _) rfl⟩⟩
theorem Paired.app {α β : Type} {R : α → β → Prop} : ∀ {xs : List α} {ys : List β} {us : List α} {vs : List β}, Paired R xs ys → Paired R us vs → Paired R (xs ++ us) (ys ++ vs)
  | _, _, _, _, .nil, h => h
  | _, _, _, _, .cons a t, h => .cons a (Paired.app t h)
theorem Paired.rep {α β : Type} {R : α → β → Prop} {xs : List α} {ys : List β} (h : Paired R xs ys) : ∀ n : Nat, Paired R (List.replicate n xs).flatten (List.replicate n ys).flatten
  | 0 => .nil
  | n + 1 => by
    rw [List.replicate_succ, List.replicate_succ, List.flatten_cons, List.flatten_cons]
    exact Paired.app h (Paired.rep h n)
theorem v_rep {K : PySem.W.Frag} {α : Type} {S : Rp α} : VN2 K (lstR S) intR S rRep (fun xs n k => -(2 ^ 63) ≤ n ∧ n < 2 ^ 63 ∧ xs.length * n.toNat ≤ sizeLine ∧ k (List.replicate n.toNat xs).flatten) := ⟨fun x y k k' h h2 => ⟨h2.1, h2.2.1, h2.2.2.1, h _ h2.2.2.2⟩, fun W H x y v u Q fr ⟨a, ws, e, n, h, p⟩ hu ⟨q1, q2, q3, q⟩ => by
  subst e
  rw [show u = V.int y from hu]
  have ll := Paired.length p
  exact ⟨a, y, ws, rfl, rfl, h, q1, q2, by rw [ll]; exact q3, fun l hl => q l _ _ hl (Same.new hl) upd_same (Paired.rep (S.pmono (geNew hl) p) _)⟩⟩
section
variable {E α ι : Type} {X : ι → Cx} {K : PySem.W.Frag} {L : List (Sl E)} {S : Rp α} {tg : Expr} {pos p : Pos}
theorem it_range3 {a b d : Expr} {wa : E → (Int × Int × Int × Unit → Prop) → Prop} (hg : ∀ j, Gl (X j) "range") (hm : ∀ j, (X j).mg "range" = none) (h : TA X K L (.cons intR (.cons intR (.cons intR .nil))) [a, b, d] wa)
    (hs : ∀ j, starEach [a, b, d] (X j).env = (false, eval a (X j).env) :: starEach [b, d] (X j).env := by intro _; rfl) (hp : ∀ j, ((backTo pos (starEach [b, d] (X j).env)).any fun x => x.1) = false := by intro _; rfl) :
    TIt X K L intR tg (.Call (.Name "range" p) [a, b, d] [] pos) (fun env k => wa env fun z => ∃ n : Nat, RgC z.1 z.2.1 z.2.2.1 n ∧ k ((List.range n).map fun (m : Nat) => z.1 + (m : Int) * z.2.2.1)) := by
  obtain ⟨t, pe, f⟩ := h.ex
  refine ⟨fun e k k' hk hw => h.mono _ _ _ (fun z ⟨n, h1, h2⟩ => ⟨n, h1, hk _ h2⟩) hw, _, fun j => pi_range3 (tg := tg) (hg j) (hm j) (pe j) (hs j) (hp j), fun c σ H env own Q s hw => f c σ H env own _ s (h.mono _ _ _ (fun z ⟨n, h1, hx⟩ vs H1 x1 ok => ?_) hw)⟩
  obtain ⟨v1, us1, rfl, r1, v2, us2, rfl, r2, v3, us3, rfl, r3, e⟩ := ok
  rw [show us3 = [] from e, show v1 = V.int _ from r1, show v2 = V.int _ from r2, show v3 = V.int _ from r3]
  refine ⟨z.1, z.2.1, z.2.2.1, n, rfl, h1, hx _ H1 (fun _ => True) (YFn fun i => .int (z.1 + (i : Nat) * z.2.2.1)) x1 (by rw [List.length_map, List.length_range]; exact walk_rangeC) ⟨fun _ _ _ => trivial, fun W' H2 H3 i v g fr hi y => ?_⟩⟩
  obtain ⟨rfl, rfl⟩ := y
  rw [List.length_map, List.length_range] at hi
  refine ⟨Same.refl _, z.1 + (i : Int) * z.2.2.1, ?_, rfl⟩
  rw [List.getElem?_map, List.getElem?_range hi]
  rfl
theorem it_range2 {a b : Expr} {wa : E → (Int × Int × Unit → Prop) → Prop} (hg : ∀ j, Gl (X j) "range") (hm : ∀ j, (X j).mg "range" = none) (h : TA X K L (.cons intR (.cons intR .nil)) [a, b] wa)
    (hs : ∀ j, starEach [a, b] (X j).env = [(false, eval a (X j).env), (false, eval b (X j).env)] := by intro _; rfl) (hs2 : ∀ j, starEach [b] (X j).env = [(false, eval b (X j).env)] := by intro _; rfl) :
    TIt X K L intR tg (.Call (.Name "range" p) [a, b] [] pos) (fun env k => wa env fun z => (-(2 ^ 62) ≤ z.1 ∧ z.1 < 2 ^ 62 ∧ -(2 ^ 62) ≤ z.2.1 ∧ z.2.1 < 2 ^ 62) ∧ k ((List.range (z.2.1 - z.1).toNat).map fun (m : Nat) => z.1 + (m : Int))) := by
  obtain ⟨t, pe, f⟩ := h.ex
  refine ⟨fun e k k' hk hw => h.mono _ _ _ (fun z ⟨h1, h2⟩ => ⟨h1, hk _ h2⟩) hw, _, fun j => pi_range2 (tg := tg) (hg j) (hm j) (pe j) (hs j) (hs2 j), fun c σ H env own Q s hw => f c σ H env own _ s (h.mono _ _ _ (fun z ⟨h1, hx⟩ vs H1 x1 ok => ?_) hw)⟩
  obtain ⟨v1, us1, rfl, r1, v2, us2, rfl, r2, e⟩ := ok
  rw [show us2 = [] from e, show v1 = V.int _ from r1, show v2 = V.int _ from r2]
  refine ⟨z.1, z.2.1, rfl, h1, hx _ H1 (fun _ => True) (YFn fun i => .int (z.1 + (i : Int))) x1 (by rw [List.length_map, List.length_range]; exact walk_range) ⟨fun _ _ _ => trivial, fun W' H2 H3 i v g fr hi y => ?_⟩⟩
  obtain ⟨rfl, rfl⟩ := y
  rw [List.length_map, List.length_range] at hi
  refine ⟨Same.refl _, z.1 + (i : Int), ?_, rfl⟩
  rw [List.getElem?_map, List.getElem?_range hi]
  rfl
/-- an item of one's own list -/
theorem tx_ixO {g : E → List α} {i : Nat} {x : Str} {b : Expr} {wb : E → (Int → Prop) → Prop} (hL : L[i]? = some (.ow S g)) (hN : ∀ j, (X j).N[i]? = some x) (hv : ∀ j, Vis (X j).env.scope x) (hb : TX X K L intR b wb) (hs : PlainIx b) (hK : ∀ j, (X j).K = K := by intro _; rfl) (hd : (x == ("__debug__" : Str)) = false := by decide) (hcd : (x == ("__classdict__" : Str)) = false := by decide) :
    TX X K L S (.Subscript (.Name x p) b pos) (fun env k => wb env fun z => ∃ y, atI (g env) z = some y ∧ k y) := by
  obtain ⟨t2, p2, f2⟩ := hb.ex
  refine ⟨fun e k k' h hw => hb.mono _ _ _ (fun z ⟨y, h1, h2⟩ => ⟨y, h1, h _ h2⟩) hw, _, fun j => pe_ix (ix_listK (hK j)) (pe_var (hN j) (hv j) hd hcd) (p2 j) hs, fun c σ H env own Q s hw => ?_⟩
  obtain ⟨a, vs, h1, h2, h3, h4, h5⟩ := s.slot i _ hL
  refine ⟨.ref a, h2, f2 c σ H env own _ s (hb.mono _ _ _ (fun z ⟨y, hz, hk⟩ u H2 x2 r2 => ?_) hw)⟩
  obtain ⟨a', vs', h1', h2', h3', h4', h5'⟩ := (s.ex x2).slot i _ hL
  rw [h1] at h1'
  cases h1'
  rw [show u = V.int z from r2]
  have ll := Paired.length h5'
  unfold atI at hz
  rw [← ll] at hz
  rcases q : ixN vs'.length z with _ | m
  · rw [q] at hz
    cases hz
  · rw [q] at hz
    have hz' : (g env)[m]? = some y := hz
    obtain ⟨hm, hy⟩ := List.getElem?_eq_some_iff.mp hz'
    have hv' : vs'[m]? = some (vs'[m]'(by omega)) := List.getElem?_eq_getElem (by omega)
    obtain ⟨y', hy', ry⟩ := Paired.at2 h5' hv'
    rw [hz'] at hy'
    cases hy'
    exact ⟨a, vs', z, _, rfl, rfl, SqL.of h4', by unfold atI; rw [q]; exact hv', hk _ H2 x2 ry⟩
/-- the first place of a number in a list -/
def idxZ (xs : List Int) (x : Int) : Nat := xs.findIdx fun z => decide (z = x)
theorem tx_indexI {o x : Expr} {cpos apos : Pos} {wo : E → (List Int → Prop) → Prop} {wx : E → (Int → Prop) → Prop} (ho : TX X K L (lstR intR) o wo) (hx : TX X K L intR x wx) (hK : ∀ j, (X j).K = K := by intro _; rfl)
    (hbase : ∀ j, attributeBase o "index" (X j).env (eval o (X j).env) = eval o (X j).env := by intro _; rfl)
    (hfew : ∀ j, ((backTo cpos (starEach [x] (X j).env)).all (fun x => !x.1) && (backToKw cpos (keywordEach [] (X j).env)).all (fun x => x.1.isSome) && decide (([x] : List Expr).length + ([] : List Keyword).length + (if ([] : List Keyword).isEmpty then 0 else 1) < 30)) = true := by intro _; rfl)
    (hline : (apos.endLine == cpos.line) = true := by rfl) (hse : ∀ j, starEach [x] (X j).env = (false, eval x (X j).env) :: starEach [] (X j).env := by intro _; rfl) :
    TX X K L intR (.Call (.Attribute o "index" apos) [x] [] cpos) (fun env k => wo env fun xs => wx env fun y => y ∈ xs ∧ k (idxZ xs y : Int)) := by
  obtain ⟨t1, p1, f1⟩ := ho.ex
  obtain ⟨t2, p2, f2⟩ := hx.ex
  refine ⟨fun e k k' hk hw => ho.mono _ _ _ (fun xs h1 => hx.mono _ _ _ (fun y hy => ⟨hy.1, hk _ hy.2⟩) h1) hw, _, fun j => by
    have z := pe_bm PySem.F.plainAttrs_list PySem.F.slot_list_index PySem.F.type_list_index mt_index (p1 j) (pa_cons (p2 j) pa_nil (hse j)) (hbase j) (hfew j) hline (hse j)
    rw [hK j] at z
    exact z, fun c σ H env own Q s hw => ?_⟩
  refine f1 c σ H env own _ s (ho.mono _ _ _ (fun xs hxs v1 H1 x1 r1 => ?_) hw)
  obtain ⟨a, vs, rfl, n, e1, q1⟩ := r1
  refine ⟨.inl ⟨rfl, _, SqL.of e1⟩, ?_⟩
  refine f2 c σ H1 env own _ (s.ex x1) (hx.mono _ _ _ (fun y hy v2 H2 x2 r2 => ?_) hxs)
  cases r2
  obtain ⟨_, _, e2, n2, e3, q3⟩ := (lstR intR).mono x2.ge (show (lstR intR).r K (Wb c own) H1 (.ref a) xs from ⟨a, vs, rfl, n, e1, q1⟩)
  cases e2
  have ev := intsP q3
  subst ev
  have lt : idxZ xs y < xs.length := List.findIdx_lt_length_of_exists ⟨y, hy.1, decide_eq_true rfl⟩
  have at1 : xs[idxZ xs y] = y := of_decide_eq_true (List.findIdx_getElem (p := fun z => decide (z = y)) (w := lt))
  refine ⟨a, _, .int y, idxZ xs y, .int y, rfl, rfl, SqL.of e3, rfl, ?_, ?_, ?_, fun m z' hm hz => ?_, hy.2 _ H2 (x1.trans x2) rfl⟩
  · rw [List.all_eq_true]
    intro u hu
    obtain ⟨z, _, rfl⟩ := List.mem_map.mp hu
    rfl
  · rw [List.getElem?_map, List.getElem?_eq_getElem lt, at1]
    rfl
  · show eqV (.int y) (.int y) = true
    simp [eqV]
  · rw [List.getElem?_map] at hz
    obtain ⟨z, hz1, rfl⟩ := Option.map_eq_some_iff.mp hz
    obtain ⟨hml, hz2⟩ := List.getElem?_eq_some_iff.mp hz1
    have := List.not_of_lt_findIdx (p := fun z => decide (z = y)) (xs := xs) (i := m) hm
    rw [hz2] at this
    show eqV (.int z) (.int y) = false
    simpa [eqV] using this
end
section
variable {E α ρ ι : Type} {X : ι → Cx} {K : PySem.W.Frag} {R : RetR ρ} {L L' : List (Sl E)} {S : Rp α} {s : Stmt}
theorem ts_setC {we : E → (List α → Prop) → Prop} {i : Nat} {set : E → List α → E} (h : TNA X K L S s i we) (hl : ∃ s0, (lift (List α) L)[i]? = some s0 ∧ s0 ≠ .sr) (hsub : Sub (fun e : E × List α => set e.1 e.2) ((lift (List α) L).set i (.im (lstR S) Prod.snd)) L') : TS1 X K R L L' s (fun env k => we env fun y => k.nx (set env y)) := by
  obtain ⟨t, p, f⟩ := h.ex
  refine ⟨fun e k k' hn _ hw => h.mono _ _ _ (fun _ hx => hn _ hx) hw, _, p, fun c σ H env own D s hw => f c σ H env own _ s (h.mono _ _ _ (fun y hy l vs H' n x' e' r => ?_) hw)⟩
  exact hy _ H' _ ((((s.ex x').lift y).setI hl (lstR S) Prod.snd ⟨l, vs, rfl, s.fresh n, e', S.pmono (Ge.less fun a z => .inl z) r⟩).sub hsub)
theorem ts_ownC {we : E → (List α → Prop) → Prop} {i : Nat} {set : E → List α → E} (h : TNA X K L S s i we) (hl : ∃ s0, (lift (List α) L)[i]? = some s0 ∧ s0 ≠ .sr) (hsub : Sub (fun e : E × List α => set e.1 e.2) ((lift (List α) L).set i (.ow S Prod.snd)) L') : TS1 X K R L L' s (fun env k => we env fun y => k.nx (set env y)) := by
  obtain ⟨t, p, f⟩ := h.ex
  refine ⟨fun e k k' hn _ hw => h.mono _ _ _ (fun _ hx => hn _ hx) hw, _, p, fun c σ H env own D s hw => f c σ H env own _ s (h.mono _ _ _ (fun y hy l vs H' n x' e' r => ?_) hw)⟩
  refine hy _ H' _ (((s.lift y).setO ⟨fun a o na => x'.st a o fun z => na (Sr.lift.mpr z), fun a z => x'.sr a (Sr.lift.mp z)⟩ hl S Prod.snd n e' r).sub hsub)
end
end Tx

/-! comparisons in a row, max and min of two -/
namespace Tx
open PySem PySem.Spec PyProof.Rows L2 Gx
section
variable {E : Type} {ι : Type} {X : ι → Cx} {K : PySem.W.Frag} {L : List (Sl E)} {a b c : Expr} {pos : Pos} {op op' : CmpOp} {r r' : R2} {wa wb wc : E → (Int → Prop) → Prop} {w1 w2 : Int → Int → (Bool → Prop) → Prop}
theorem tt_chain (ho : ∀ i, OpR (X i) (compareOp op) r) (ho' : ∀ i, OpR (X i) (compareOp op') r') (v : VR2 K intR intR boolR r w1) (v' : VR2 K intR intR boolR r' w2) (ha : TX X K L intR a wa) (hb : TX X K L intR b wb) (hc : TX X K L intR c wc) (hm : lastMarks [op, op'] [b, c] = false := by rfl) :
    TT X K L (.Compare a [op, op'] [b, c] pos) (fun env k => wa env fun x => wb env fun y => w1 x y fun z => if z = true then wc env fun u => w2 y u k else k false) := by
  obtain ⟨t1, p1, f1⟩ := ha.ex
  obtain ⟨t2, p2, f2⟩ := hb.ex
  obtain ⟨t3, p3, f3⟩ := hc.ex
  refine ⟨fun e k k' h hw => ha.mono _ _ _ (fun x hx => hb.mono _ _ _ (fun y hy => v.mono _ _ _ _ (fun z hz => ?_) hy) hx) hw, _, fun i => pt_chain (ho i) (ho' i) (p1 i) (p2 i) (p3 i) hm, fun cc σ H env own Q s hw => ?_⟩
  · cases z
    · exact h _ hz
    · exact hc.mono _ _ _ (fun u hu => v'.mono _ _ _ _ h hu) hz
  · refine f1 cc σ H env own _ s (ha.mono _ _ _ (fun x hx v1 H1 x1 r1 => ?_) hw)
    refine f2 cc σ H1 env own _ (s.ex x1) (hb.mono _ _ _ (fun y hy v2 H2 x2 r2 => ?_) hx)
    have s2 := (s.ex x1).ex x2
    refine v.run (Wb cc own) H2 x y v1 v2 _ (fun l hl => s2.fresh hl) r1 r2 (v.mono _ _ _ _ (fun z hz z' H3 k3 r3 => ?_) hy)
    have s3 := s2.ex (s2.exSame k3)
    refine ⟨z, r3, ?_⟩
    cases z
    · exact ⟨false, rfl, hz _ (x1.trans (x2.trans (s2.exSame k3)))⟩
    · refine f3 cc σ H3 env own _ s3 (hc.mono _ _ _ (fun u hu v4 H4 x4 r4 => ?_) hz)
      have s4 := s3.ex x4
      refine v'.run (Wb cc own) H4 y u v2 v4 _ (fun l hl => s4.fresh hl) r2 r4 (v'.mono _ _ _ _ (fun z2 hz2 z2' H5 k5 r5 => ⟨z2, r5, ?_⟩) hu)
      exact hz2 _ (x1.trans (x2.trans ((s2.exSame k3).trans (x4.trans (s4.exSame k5)))))
end
def rMax2 : List V → Hp → VK → Prop := fun xs H Q => ∃ i j, xs = [V.int i, V.int j] ∧ Q (V.int (if j > i then j else i)) H
def rMin2 : List V → Hp → VK → Prop := fun xs H Q => ∃ i j, xs = [V.int i, V.int j] ∧ Q (V.int (if j < i then j else i)) H
theorem call_max2' {X : Cx} (h : X.calm = true) : CallR X (.builtin "max") rMax2 := call_max2 h
theorem call_min2' {X : Cx} (h : X.calm = true) : CallR X (.builtin "min") rMin2 := call_min2 h
theorem vc_max2 {K : PySem.W.Frag} : VC K (.cons intR (.cons intR .nil)) intR rMax2 (fun x k => k (if x.2.1 > x.1 then x.2.1 else x.1)) := ⟨fun x k k' h h2 => h _ h2, fun W H x vs Q fr ⟨v, us, e, h1, u, us2, e2, h2, e3⟩ q => by
  subst e e2
  rw [show us2 = [] from e3, show v = V.int _ from h1, show u = V.int _ from h2]
  exact ⟨_, _, rfl, q _ H (Same.refl _) rfl⟩⟩
theorem vc_min2 {K : PySem.W.Frag} : VC K (.cons intR (.cons intR .nil)) intR rMin2 (fun x k => k (if x.2.1 < x.1 then x.2.1 else x.1)) := ⟨fun x k k' h h2 => h _ h2, fun W H x vs Q fr ⟨v, us, e, h1, u, us2, e2, h2, e3⟩ q => by
  subst e e2
  rw [show us2 = [] from e3, show v = V.int _ from h1, show u = V.int _ from h2]
  exact ⟨_, _, rfl, q _ H (Same.refl _) rfl⟩⟩
end Tx

/-! dicts whose keys are nested tuples -/
namespace Gx
open PySem PySem.Spec PyProof.Rows L2
abbrev NDv := NestedKey × Addr × V
/-- the dict at d: keys, where the key's tuple lies, values -/
def ndP (P : Program) (w : World) (d : Addr) (kvs : List NDv) (h : Heap) : Prop := kvs.length ≤ sizeLine ∧ (d == sysModules) = false ∧ ∃ xs : List (NestedKey × Addr × Value), Paired (fun (p : NDv) (q : NestedKey × Addr × Value) => p.1 = q.1 ∧ p.2.1 = q.2.1 ∧ RelV p.2.2 q.2.2) kvs xs ∧ (xs.map (·.1)).Nodup ∧
  ∃ o es ep, h.get? d = some o ∧ o.ExactDict ∧ o.data = .dict es ep ∧ es.toList = xs.map (entryOfKey (nestedKind P w))
def ndO (P : Program) (w : World) (d : Addr) (kvs : List NDv) : HO := .ext (ndP P w d kvs)
theorem ndP.ok {P : Program} {w : World} {H : Hp} {h : Heap} {d : Addr} {kvs : List NDv} (z : ndP P w d kvs h) : ObjOk P w H h d (ndO P w d kvs) := by
  show ndP P w d kvs h ∧ (∃ o, h.get? d = some o) ∧ ∀ h1 h2 : Heap, ndP P w d kvs h1 → (∀ o, h1.get? d = some o → h2.get? d = some o) → ndP P w d kvs h2
  refine ⟨z, ?_, fun h1 h2 ⟨a, b, xs, p, nd, o, es, ep, e, q⟩ k => ⟨a, b, xs, p, nd, o, es, ep, k _ e, q⟩⟩
  obtain ⟨_, _, xs, _, _, o, es, ep, e, _⟩ := z
  exact ⟨o, e⟩
mutual
/-- a value that is such a key -/
inductive NK (K : PySem.W.Frag) (H : Hp) : V → NestedKey → Prop
  | int (i : Int) : NK K H (.int i) (.num i)
  | str (x : Str) : NK K H (.str x) (.text x)
  | tup {a : Addr} {xs : List V} {ks : List NestedKey} : SqT K H a xs → NKs K H xs ks → NK K H (.ref a) (.tup ks)
inductive NKs (K : PySem.W.Frag) (H : Hp) : List V → List NestedKey → Prop
  | nil : NKs K H [] []
  | cons {v : V} {vs : List V} {k : NestedKey} {ks : List NestedKey} : NK K H v k → NKs K H vs ks → NKs K H (v :: vs) (k :: ks)
end
section
variable {X : Cx} {pins : List (Addr × Obj)} {σ : L2.St} {H : Hp} {s : Shared}
mutual
theorem NK.is (I : Inv X pins σ H s) : ∀ {v : V} {k : NestedKey} {u : Value}, NK X.K H v k → RelV v u → NestedIs s.heap k u
  | _, _, _, .int i, r => by obtain ⟨t, rfl⟩ := r; exact .int i t
  | _, _, _, .str x, r => by obtain ⟨t, rfl⟩ := r; exact .text x t
  | _, _, _, .tup (a := a) hs ha, r => by
    cases r
    obtain ⟨its, rv, ⟨o, ho, hc, n, hd⟩, _⟩ := I.tuple hs
    exact .tup ho hc hd (NKs.is I ha rv)
theorem NKs.is (I : Inv X pins σ H s) : ∀ {vs : List V} {ks : List NestedKey} {us : List Value}, NKs X.K H vs ks → Vals vs us → NestedAll s.heap ks us
  | _, _, _, .nil, r => by cases r; exact .nil
  | _, _, _, .cons h t, r => by
    cases r with
    | cons r1 r2 => exact .cons (NK.is I h r1) (NKs.is I t r2)
end
/-- what is known of the keys' tuples -/
def NDk (K : PySem.W.Frag) (H : Hp) (kvs : List NDv) : Prop := ∀ p ∈ kvs, NK K H (.ref p.2.1) p.1 ∧ p.1.depth ≤ 8
theorem nd_keyed (I : Inv X pins σ H s) {d : Addr} {kvs : List NDv} (hd : H d = some (ndO X.prog X.w d kvs)) (hk : NDk X.K H kvs) :
    (d == sysModules) = false ∧ kvs.length ≤ sizeLine ∧ ∃ xs : List (NestedKey × Addr × Value), Paired (fun (p : NDv) (q : NestedKey × Addr × Value) => p.1 = q.1 ∧ p.2.1 = q.2.1 ∧ RelV p.2.2 q.2.2) kvs xs ∧ s.heap.DictKeyed (nestedKind X.prog X.w) d (pairsH xs) := by
  have h : ndP X.prog X.w d kvs s.heap := (I.hok d _ hd).1
  obtain ⟨a, b, xs, p, nd, o, es, ep, e, x1, x2, x3⟩ := h
  refine ⟨b, a, xs, p, xs, ⟨o, es, ep, e, x1, x2, x3, fun x hx => ?_, nd⟩, rfl⟩
  obtain ⟨i, hi, ei⟩ := List.mem_iff_getElem.mp hx
  have len := Paired.length p
  obtain ⟨y, hy, e1, e2, _⟩ := Paired.at2 (i := i) (x := kvs[i]'(by omega)) p (List.getElem?_eq_getElem (by omega))
  rw [List.getElem?_eq_getElem hi, ei] at hy
  cases hy
  obtain ⟨q1, q2⟩ := hk _ (List.getElem_mem (show i < kvs.length by omega))
  rw [e1, e2] at q1
  rw [e1] at q2
  exact ⟨NK.is I q1 rfl, q2⟩
end
end Gx
namespace Gx
open PySem PySem.Spec PyProof.Rows L2
/-- what such a dict holds at a key -/
def ndGet (kvs : List NDv) (k : NestedKey) : Option V := (kvs.find? fun p => decide (p.1 = k)).map (·.2.2)
theorem nd_val {kvs : List NDv} {xs : List (NestedKey × Addr × Value)} (p : Paired (fun (p : NDv) (q : NestedKey × Addr × Value) => p.1 = q.1 ∧ p.2.1 = q.2.1 ∧ RelV p.2.2 q.2.2) kvs xs) (k : NestedKey) :
    (ndGet kvs k = none ∧ valueAt (pairsH xs) k = none) ∨ ∃ v u, ndGet kvs k = some v ∧ valueAt (pairsH xs) k = some u ∧ RelV v u := by
  induction p with
  | nil => exact .inl ⟨rfl, rfl⟩
  | @cons a b as bs h t ih =>
    by_cases c : a.1 = k
    · refine .inr ⟨a.2.2, b.2.2, ?_, ?_, h.2.2⟩
      · unfold ndGet
        rw [List.find?_cons_of_pos (by simpa using c)]
        rfl
      · have : b.1 = k := by rw [← h.1]; exact c
        simp [pairsH, valueAt, this]
    · have c' : ¬ b.1 = k := by rw [← h.1]; exact c
      have e1 : ndGet (a :: as) k = ndGet as k := by
        unfold ndGet
        rw [List.find?_cons_of_neg (by simpa using c)]
      have e2 : valueAt (pairsH (b :: bs)) k = valueAt (pairsH bs) k := by
        simp [pairsH, valueAt, c']
      rw [e1, e2]
      exact ih
section
variable {X : Cx}
def rInN (P : Program) (w : World) (K : PySem.W.Frag) (neg : Bool) : R2 := fun x y H Q => ∃ a d kvs k, x = .ref a ∧ y = .ref d ∧ H d = some (ndO P w d kvs) ∧ NDk K H kvs ∧ NK K H (.ref a) k ∧ k.depth ≤ 8 ∧ Q (.bl (neg != (ndGet kvs k).isSome)) H
theorem op_inN (hu : X.A.units + 9 < cLine) : OpR X (compareOp .In) (rInN X.prog X.w X.K false) := by
  intro pins s σ H x y v u Q I rx ry h
  obtain ⟨a, d, kvs, k, rfl, rfl, hd, hk, na, dp, q⟩ := h
  cases rx
  cases ry
  obtain ⟨ns, _, xs, p, dk⟩ := nd_keyed I hd hk
  refine in_keyed (knd := nestedKind X.prog X.w) (by show X.A.units + 1 + 8 < cLine; omega) ⟨NK.is I na rfl, dp⟩ ns dk ?_
  refine ⟨.bl _, H, I.tok _, rfl, ?_⟩
  have e : (valueAt (pairsH xs) k).isSome = (ndGet kvs k).isSome := by
    rcases nd_val p k with ⟨e1, e2⟩ | ⟨v, u, e1, e2, _⟩ <;> rw [e1, e2] <;> rfl
  rw [e]
  simpa using q
theorem op_notInN (hu : X.A.units + 9 < cLine) : OpR X (compareOp .NotIn) (rInN X.prog X.w X.K true) := by
  intro pins s σ H x y v u Q I rx ry h
  obtain ⟨a, d, kvs, k, rfl, rfl, hd, hk, na, dp, q⟩ := h
  cases rx
  cases ry
  obtain ⟨ns, _, xs, p, dk⟩ := nd_keyed I hd hk
  refine notIn_keyed (knd := nestedKind X.prog X.w) (by show X.A.units + 1 + 8 < cLine; omega) ⟨NK.is I na rfl, dp⟩ ns dk ?_
  refine ⟨.bl _, H, I.tok _, rfl, ?_⟩
  have e : (valueAt (pairsH xs) k).isSome = (ndGet kvs k).isSome := by
    rcases nd_val p k with ⟨e1, e2⟩ | ⟨v, u, e1, e2, _⟩ <;> rw [e1, e2] <;> rfl
  rw [e]
  simpa using q
end
end Gx
namespace Gx
open PySem PySem.Spec PyProof.Rows L2
abbrev NDr : NDv → NestedKey × Addr × Value → Prop := fun p q => p.1 = q.1 ∧ p.2.1 = q.2.1 ∧ RelV p.2.2 q.2.2
section
variable {X : Cx} {pins : List (Addr × Obj)} {σ : L2.St} {H : Hp} {s : Shared}
theorem nd_heap (I : Inv X pins σ H s) {d : Addr} {kvs : List NDv} (hd : H d = some (ndO X.prog X.w d kvs)) (hk : NDk X.K H kvs) :
    (d == sysModules) = false ∧ kvs.length ≤ sizeLine ∧ ∃ xs : List (NestedKey × Addr × Value), Paired NDr kvs xs ∧ s.heap.DictOfH (nestedKind X.prog X.w) d xs := by
  have h : ndP X.prog X.w d kvs s.heap := (I.hok d _ hd).1
  obtain ⟨a, b, xs, p, nd, o, es, ep, e, x1, x2, x3⟩ := h
  refine ⟨b, a, xs, p, o, es, ep, e, x1, x2, x3, fun x hx => ?_, nd⟩
  obtain ⟨i, hi, ei⟩ := List.mem_iff_getElem.mp hx
  have len := Paired.length p
  obtain ⟨y, hy, e1, e2, _⟩ := Paired.at2 (i := i) (x := kvs[i]'(by omega)) p (List.getElem?_eq_getElem (by omega))
  rw [List.getElem?_eq_getElem hi, ei] at hy
  cases hy
  obtain ⟨q1, q2⟩ := hk _ (List.getElem_mem (show i < kvs.length by omega))
  rw [e1, e2] at q1
  rw [e1] at q2
  exact ⟨NK.is I q1 rfl, q2⟩
theorem nd_none {kvs : List NDv} {xs : List (NestedKey × Addr × Value)} (p : Paired NDr kvs xs) {k : NestedKey} (h : ndGet kvs k = none) : atKey xs k = none := by
  induction p with
  | nil => rfl
  | @cons a b as bs r t ih =>
    by_cases c : a.1 = k
    · unfold ndGet at h
      rw [List.find?_cons_of_pos (by simpa using c)] at h
      cases h
    · have c' : ¬ b.1 = k := by rw [← r.1]; exact c
      have e1 : ndGet (a :: as) k = ndGet as k := by
        unfold ndGet
        rw [List.find?_cons_of_neg (by simpa using c)]
      have e2 : atKey (b :: bs) k = atKey bs k := by
        unfold atKey
        rw [List.find?_cons_of_neg (by simpa using c')]
      rw [e2]
      exact ih (by rw [← e1]; exact h)
/-- d[k] = v, k not there -/
def rSetN (P : Program) (w : World) (K : PySem.W.Frag) : TSet := fun o i v H Q => ∃ d a kvs k, o = .ref d ∧ i = .ref a ∧ H d = some (ndO P w d kvs) ∧ NDk K H kvs ∧ NK K H (.ref a) k ∧ k.depth ≤ 8 ∧ ndGet kvs k = none ∧ kvs.length < sizeLine ∧ Q (upd H d (ndO P w d (kvs ++ [(k, a, v)])))
theorem set_nd (hu : X.A.units + 9 < cLine) : PSet X (rSetN X.prog X.w X.K) := by
  intro pins s σ H o i v ov iv u Q I ro ri rv h
  obtain ⟨d, a, kvs, k, rfl, rfl, hd, hk, na, dp, no, sz, q⟩ := h
  cases ro
  cases ri
  obtain ⟨ns, le, xs, p, dk⟩ := nd_heap I hd hk
  have xl := Paired.length p
  have at0 := nd_none p no
  refine wpAny_setItem_heap (knd := nestedKind X.prog X.w) (by show X.A.units + 1 + 8 < cLine; omega) ⟨NK.is I na rfl, dp⟩ dk (fun h' dk' sb => ?_) (by omega)
  refine ⟨_, I.write (x := d) (e := d) (o := ndO X.prog X.w d (kvs ++ [(k, a, v)])) (by rw [hd]; trivial) (.inl rfl) (fun b o n e => ?_) ?_ (ndP.ok ?_), q⟩
  · rw [sb.2 b n]
    exact e
  · obtain ⟨o, es, ep, e, _⟩ := dk'
    exact ⟨o, e⟩
  · have st : storedH xs k a u = xs ++ [(k, a, u)] := by
      unfold storedH
      rw [at0]
      rfl
    rw [st] at dk'
    obtain ⟨o, es, ep, e, x1, x2, x3, x4, x5⟩ := dk'
    refine ⟨by rw [List.length_append]; simp only [List.length_cons, List.length_nil]; omega, ns, xs ++ [(k, a, u)], ?_, x5, o, es, ep, e, x1, x2, x3⟩
    have app : ∀ {as : List NDv} {bs : List (NestedKey × Addr × Value)}, Paired NDr as bs → Paired NDr (as ++ [(k, a, v)]) (bs ++ [(k, a, u)]) := by
      intro as bs z
      induction z with
      | nil => exact .cons ⟨rfl, rfl, rv⟩ .nil
      | cons r t ih => exact .cons r ih
    exact app p
end
end Gx
namespace Gx
open PySem PySem.Spec PyProof.Rows L2
section
variable {X : Cx}
/-- d[k], k there -/
def rIxN (P : Program) (w : World) (K : PySem.W.Frag) : R2 := fun x y H Q => ∃ d a kvs k v, x = .ref d ∧ y = .ref a ∧ H d = some (ndO P w d kvs) ∧ NDk K H kvs ∧ NK K H (.ref a) k ∧ k.depth ≤ 8 ∧ ndGet kvs k = some v ∧ Q v H
theorem ix_nd (hu : X.A.units + 9 < cLine) : IxR X (rIxN X.prog X.w X.K) := by
  intro value slice pins s σ H x y v u Q I rx ry h hs
  obtain ⟨d, a, kvs, k, z, rfl, rfl, hd, hk, na, dp, ev, q⟩ := h
  cases rx
  cases ry
  obtain ⟨ns, _, xs, p, dk⟩ := nd_keyed I hd hk
  rcases nd_val p k with ⟨e1, _⟩ | ⟨v', u, e1, e2, r⟩
  · rw [ev] at e1
    cases e1
  · rw [ev] at e1
    cases e1
    refine tail_any (T := "dict") dk.typeIs rfl ?_ hs
    exact getItem_keyed (knd := nestedKind X.prog X.w) (by show X.A.units + 1 + 8 < cLine; omega) ⟨NK.is I na rfl, dp⟩ dk e2 ⟨z, H, I.tok _, r, q⟩
end
end Gx

/-! dict comprehensions over any kind of own dict -/
namespace Gx
open PySem PySem.Spec PyProof.Rows L2
abbrev DSt := Addr → V → V → Hp → (Hp → Prop) → Prop
/-- how a dict of some kind starts, what storing in it does, as what it is seen at the end -/
structure DKd (X : Cx) (start : Addr → HO) (st : DSt) (out : Addr → HO → HO → Prop) : Prop where
  new : ∀ (H : Hp) (h : Heap), sysModules < h.objs.size → ObjOk X.prog X.w H (h.push { cls := .type "dict", data := .dict #[] }) h.objs.size (start h.objs.size)
  out : ∀ {pins : List (Addr × Obj)} {σ : L2.St} {H : Hp} {s : Shared} {D : Addr} {o o' : HO}, Inv X pins σ H s → H D = some o → out D o o' → Inv X pins σ (upd H D o') s
  put : ∀ {s0 : Shared} {H0 : Hp} {sc : Scope} {en : Env} {fp : List Addr} {pins : List (Addr × Obj)} {σ : L2.St} {H : Hp} {s : Shared} {D : Addr} {y z : V} {u r : Value} {Q : Unit → Shared → Prop} {E : Value → Shared → Prop} {Nx : Hp → Prop},
    Inv (X.blk s0 H0 sc en fp) pins σ H s → RelV y u → RelV z r → st D y z H Nx → (∀ H' s', Inv (X.blk s0 H0 sc en fp) pins σ H' s' → Nx H' → Q () s') → wpAny (model X.prog X.w) X.A (dictSet D u r) Q E s
/-- in all blocks of a comprehension -/
abbrev BlkAll (X : Cx) (sc : Scope) (f : Cx → Prop) : Prop := ∀ (s : Shared) (H : Hp) (C : Addr) (cl : List (Str × Addr)) (fp : List Addr), f (X.blk s H sc (compEnvC sc cl C X.env) fp)
/-- the turns of such a comprehension -/
def dTurn (st : DSt) (D : Addr) (σ : L2.St) (g : TG) (tt : TT) (tk tv : TE) (vs : List Nat) (x : V) (H' : Hp) (Nx : Hp → Prop) : Prop :=
  g x (wipe σ vs) H' fun σ2 H2 => wipe σ2 vs = wipe σ vs ∧ tt σ2 H2 fun b H3 => if b = true then tk σ2 H3 fun y H4 => tv σ2 H4 fun z H5 => st D y z H5 Nx else Nx H3
def tDn (start : Addr → HO) (st : DSt) (out : Addr → HO → HO → Prop) (wi : TI) (g : TG) (tt : TT) (tk tv : TE) (vs : List Nat) : TE := fun σ H Q => wi σ H fun J H1 => ∀ D, H1 D = none →
  ∃ W : Nat → Nat → Hp → Prop, (∃ m, W 0 m (upd H1 D (start D))) ∧ ∀ i m H, W i m H → (J.stop i H ∧ ∃ o o', H D = some o ∧ out D o o' ∧ Q (.ref D) (upd H D o')) ∨ (J.go i H ∧ ∃ Nx : Hp → Prop, (∀ H', Nx H' → ∃ m', m' < m ∧ W (i + 1) m' H') ∧ ∀ x H', J.yld i H x H' → dTurn st D σ g tt tk tv vs x H' Nx)
section
variable {X : Cx}
theorem dn_core {start : Addr → HO} {st : DSt} {out : Addr → HO → HO → Prop} (kd : DKd X start st out) {pins : List (Addr × Obj)} {s0 : Shared} {σ : L2.St} {H0 : Hp} {Q : VK} {ke ve tgt src : Expr} {conds : List Expr} {sc : Scope} {bn : List (Str × Nat)} {p1 p2 : Pos}
    {wi : TI} {g : TG} {tt : TT} {tk tv : TE} {use : Option (Value → Sem Unit)} {Qf : Value → Shared → Prop} (calm : X.calm = true) (nodup : X.N.Nodup) (I0 : Inv X pins σ H0 s0) (pi : PI X tgt src wi) (bo : BlkOk X.N X.env.scope sc bn)
    (bg : BlkAll X sc fun Y => PG Y tgt g) (bt : BlkAll X sc fun Y => PTs Y conds tt) (bk : BlkAll X sc fun Y => PE Y ke tk) (bv : BlkAll X sc fun Y => PE Y ve tv) (fold : ∀ x, foldedSetIterable src X.env x = pure x)
    (goal : tDn start st out wi g tt tk tv (bn.map (·.2)) σ H0 Q)
    (fin : ∀ D C s' m H', Inv X pins σ H' s' → Q (.ref D) H' → s'.heap.Ns C m → FpOk X pins H' C → compPost (model X.prog X.w) X.A X.xe use Qf (.ref D) C (.ok .next) s') :
    wpAny (model X.prog X.w) X.A (comprehension (.DictComp ke ve [⟨tgt, src, conds, 0⟩] sc p1) sc X.env p2 newDict false (eval src X.env) use) Qf X.xe s0 := by
  have cellsOk : ∀ y ∈ sc.names, y.2 = .free → ∃ c, X.env.cells.lookup y.1 = some c := by
    intro y hy e
    exact (bo.free y hy e).elim (fun k => I0.ok.has _ (.inl k)) (fun k => I0.ok.has _ (.inr k))
  have kinds : ∀ y ∈ sc.names, y.2 = .local → sc.names.lookup y.1 = some .local := by
    intro y hy e
    rw [bo.uniq y hy, e]
  refine wpAny_comprehension_free (use := use) rfl fold (closure_ok cellsOk) bo.kind kinds ?_
  refine thn (pi.run pins s0 σ H0 _ I0 goal) ?_
  intro xv sa ha
  refine thn ha ?_
  rintro itv sb ⟨it, fp, tn, J, Hb, rfl, Ib, T, stb, fpb, turns⟩
  refine wpAny_newObj_type (newEnv_comp ?_)
  obtain ⟨D, hD⟩ : ∃ D, sb.heap.objs.size = D := ⟨_, rfl⟩
  rw [hD]
  have freeD : Hb D = none := Ib.hok.fresh (by rw [hD]; exact Nat.le_refl _)
  obtain ⟨W, ⟨mm, w0⟩, turn⟩ := turns D freeD
  -- the dict itself
  obtain ⟨sd, esd⟩ : ∃ sd, ({ sb with heap := sb.heap.push { cls := .type "dict", data := .dict #[] } } : Shared) = sd := ⟨_, rfl⟩
  have hd : sd.heap = sb.heap.push { cls := .type "dict", data := .dict #[] } := by rw [← esd]
  have Id : Inv X pins σ (upd Hb D (start D)) sd := by
    subst esd hD
    exact Ib.laid (t' := sb.toks) (fun b o e => Heap.get?_push_of_some _ e) (Nat.le_refl _) (kd.new _ sb.heap Ib.big)
  have lts : ∀ b ∈ fp, b < sb.heap.objs.size := by
    intro b hb
    obtain ⟨o, e, _⟩ := T.obj _ _ stb b hb
    exact Heap.lt_size e
  have fpd : ∀ b ∈ fp, FpOk X pins (upd Hb D (start D)) b ∧ b < sd.heap.objs.size := by
    intro b hb
    have lt := lts b hb
    have ne : b ≠ D := by
      rw [← hD]
      exact Nat.ne_of_lt lt
    refine ⟨⟨?_, (fpb b hb).2⟩, ?_⟩
    · rw [upd_ne ne]
      exact (fpb b hb).1
    · rw [hd, Heap.size_push]
      exact Nat.lt_succ_of_lt lt
  have std : tn 0 sd.heap := T.keep _ _ _ stb (fun b _ o e => by rw [hd]; exact Heap.get?_push_of_some _ e)
  have Ie := block_start Id bo nodup fpd
  have qg := bg sd (upd Hb D (start D)) sd.heap.objs.size (cellsFrom (sd.heap.objs.size + 1) sc.names (cloFrom X.env.cells sc.names [])) fp
  have qt := bt sd (upd Hb D (start D)) sd.heap.objs.size (cellsFrom (sd.heap.objs.size + 1) sc.names (cloFrom X.env.cells sc.names [])) fp
  have qk := bk sd (upd Hb D (start D)) sd.heap.objs.size (cellsFrom (sd.heap.objs.size + 1) sc.names (cloFrom X.env.cells sc.names [])) fp
  have qv := bv sd (upd Hb D (start D)) sd.heap.objs.size (cellsFrom (sd.heap.objs.size + 1) sc.names (cloFrom X.env.cells sc.names [])) fp
  have bare : ∀ b ∈ fp, (upd Hb D (start D)) b = none := fun b hb => (fpd b hb).1.1
  rw [esd]
  obtain ⟨ce, ece⟩ : ∃ ce, compEnvC sc (cellsFrom (sd.heap.objs.size + 1) sc.names (cloFrom X.env.cells sc.names [])) sd.heap.objs.size X.env = ce := ⟨_, rfl⟩
  have locs : ce.locals = sd.heap.objs.size := by rw [← ece]; rfl
  obtain ⟨se, ese⟩ : ∃ se, ({ sd with heap := pushCells (sd.heap.push { cls := .type "dict", data := .dict #[] }) sc.names } : Shared) = se := ⟨_, rfl⟩
  rw [ece] at Ie qg qt qk qv
  rw [ese] at Ie
  show codeAny _ _ (.compStart (.DictComp ke ve [⟨tgt, src, conds, 0⟩] sc p1) 0 (.ref it) (.ref D) (compEnvC sc (cellsFrom (sd.heap.objs.size + 1) sc.names (cloFrom X.env.cells sc.names [])) sd.heap.objs.size X.env)) (compPost (model X.prog X.w) X.A X.xe use Qf (.ref D) sd.heap.objs.size) ({ sd with heap := pushCells (sd.heap.push { cls := .type "dict", data := .dict #[] }) sc.names } : Shared)
  rw [ece, ese]
  obtain ⟨Hd, eHd⟩ : ∃ Hd, upd Hb D (start D) = Hd := ⟨_, rfl⟩
  rw [eHd] at Id Ie qg qt qk qv w0 bare fpd
  have ste : tn 0 se.heap := T.keep _ _ _ std (fun b _ o e => by rw [← ese]; exact pushCells_keeps _ _ _ _ (Heap.get?_push_of_some _ e))
  have still : ∀ {σ' : L2.St} {H' : Hp} {s' : Shared}, Inv (X.blk sd Hd sc ce fp) [] σ' H' s' → (∀ b ∈ fp, H' b = none) → ∀ b ∈ fp, FpOk (X.blk sd Hd sc ce fp) [] H' b := by
    intro σ' H' s' I' hn b hb
    refine ⟨hn b hb, (I'.ok.exf b hb).1, I'.ok.exfs b hb, .inl hb, fun x c e => (I'.ok.exf b hb).2 x c e, ?_⟩
    intro p hp
    exact absurd (show p ∈ ([] : List (Addr × Obj)) ++ [] from hp) (by simp)
  have whole : codeAny (model X.prog X.w) X.A (.compLoop (.DictComp ke ve [⟨tgt, src, conds, 0⟩] sc p1) 0 (.ref it) (.ref D) ce) (compPost (model X.prog X.w) X.A X.xe use Qf (.ref D) sd.heap.objs.size) se := by
    refine compLoop_anyD (fun n s' => ∃ i H', Inv (X.blk sd Hd sc ce fp) [] (wipe σ (bn.map (·.2))) H' s' ∧ tn i s'.heap ∧ (∀ b ∈ fp, H' b = none) ∧ W i n H') ?_ mm ⟨0, Hd, Ie, ste, bare, w0⟩
    rintro n sf ⟨i, Hf, If, stf, nf, wf⟩
    rcases turn i n Hf wf with ⟨stop, o1, o2, e1, e2, atEnd⟩ | ⟨go, Nx, nxt, step⟩
    · have done := T.done (X.blk sd Hd sc ce fp) rfl rfl rfl calm i [] sf _ Hf (fun _ _ => False) If (still If nf) stf stop
      refine thnF done ?_
      rintro r sg ⟨rfl, Ig⟩
      have back : Inv X pins σ Hf sg := Id.call' (ch := fp) Ig.os Ig.base Ig.hok Ig.bare fun b hb => ⟨(fpd b hb).1.2.2.2.1, (fpd b hb).1.2.1, (fpd b hb).1.2.2.2.2.1, (fpd b hb).1.2.2.2.2.2⟩
      have noC : Hf sd.heap.objs.size = none := by
        have z : Hf ce.locals = none := Ig.free
        rwa [locs] at z
      obtain ⟨m, nsm, _⟩ := Ig.loc
      have nsm : sg.heap.Ns ce.locals m := nsm
      rw [locs] at nsm
      have neD : sd.heap.objs.size ≠ D := fun e => by
        rw [e, e1] at noC
        cases noC
      exact fin D sd.heap.objs.size sg m (upd Hf D o2) (kd.out back e1 e2) atEnd nsm (Id.fpOk (Nat.le_refl _) (by rw [upd_ne neD]; exact noC))
    · have item := T.item (X.blk sd Hd sc ce fp) rfl rfl rfl calm i [] sf _ Hf (fun _ _ => False) If (still If nf) stf go
      refine thnF item ?_
      rintro r sg ⟨u, rfl, hg⟩
      refine thnF hg ?_
      rintro _ sh ⟨x, Hh, Ih, relx, yx, sth, nh⟩
      have Ih' := Ih.pinned (still Ih nh) (T.obj _ _ sth)
      refine thnF (qg.run _ sh _ Hh x u _ Ih' relx (step x Hh yx)) ?_
      rintro _ si ⟨σi, Hi, Ii, wi', qi⟩
      refine thnF (qt.run _ si σi Hi _ Ii qi) ?_
      rintro b sj ⟨Hj, Ij, qj⟩
      have close : ∀ {s' : Shared} {H' : Hp}, Inv (X.blk sd Hd sc ce fp) ([] ++ pinsAt fp sh.heap) σi H' s' → Nx H' → ∃ m, m < n ∧ ∃ i H', Inv (X.blk sd Hd sc ce fp) [] (wipe σ (bn.map (·.2))) H' s' ∧ tn i s'.heap ∧ (∀ b ∈ fp, H' b = none) ∧ W i m H' := by
        intro s' H' I' nx
        obtain ⟨m', lt, w'⟩ := nxt H' nx
        have pinned : ∀ b ∈ fp, ∀ o, sh.heap.get? b = some o → s'.heap.get? b = some o ∧ H' b = none := by
          intro b hb o e
          have z := I'.pin (b, o) (List.mem_append_right _ (List.mem_append_right _ (mem_pinsAt hb e)))
          exact ⟨z.1, z.2.1⟩
        have len : (wipe σ (bn.map (·.2))).length = σi.length := by rw [← wi', wipe_length]
        refine ⟨m', lt, i + 1, H', ?_, T.keep _ _ _ sth (fun b hb o e => (pinned b hb o e).1), ?_, w'⟩
        · refine (I'.unpinned (pins := [])).weak len (fun j v e => ?_)
          rw [← wi'] at e
          exact (wipe_some e).1
        · intro b hb
          obtain ⟨o, e, _⟩ := T.obj _ _ sth b hb
          exact (pinned b hb o e).2
      cases b with
      | false =>
        simp only [Bool.false_eq_true, if_false] at qj ⊢
        exact close Ij qj
      | true =>
        simp only [if_true] at qj ⊢
        refine thnF (qk.run _ sj σi Hj _ Ij qj) ?_
        rintro z sk ⟨yk, Hk, Ik, relk, qk'⟩
        refine thnF (qv.run _ sk σi Hk _ Ik qk') ?_
        rintro z2 sl ⟨yv, Hl, Il, relv, ql⟩
        exact kd.put Il relk relv ql (fun H' s' I' nx => close I' nx)
  exact codeAny_compStart_dict whole (T.self X.A 0 _ _ _ ste whole)
/-- as a value -/
theorem pe_dn {start : Addr → HO} {st : DSt} {out : Addr → HO → HO → Prop} (kd : DKd X start st out) {ke ve tgt src : Expr} {conds : List Expr} {sc : Scope} {bn : List (Str × Nat)} {p1 : Pos} {wi : TI} {g : TG} {tt : TT} {tk tv : TE} (calm : X.calm = true) (nodup : X.N.Nodup) (pi : PI X tgt src wi) (bo : BlkOk X.N X.env.scope sc bn)
    (bg : BlkAll X sc fun Y => PG Y tgt g) (bt : BlkAll X sc fun Y => PTs Y conds tt) (bk : BlkAll X sc fun Y => PE Y ke tk) (bv : BlkAll X sc fun Y => PE Y ve tv) (fold : ∀ x, foldedSetIterable src X.env x = pure x) :
    PE X (.DictComp ke ve [⟨tgt, src, conds, 0⟩] sc p1) (tDn start st out wi g tt tk tv (bn.map (·.2))) := by
  constructor
  intro pins s σ H Q I h
  rw [arm_eval_DictComp]
  refine dn_core kd calm nodup I pi bo bg bt bk bv fold h ?_
  rintro D C s' m H' I' q ns ⟨f0, f1, f2, f3, f4, f5⟩
  refine ⟨m, ns, ?_⟩
  intro h2 sb
  exact ⟨.ref D, H', I'.turned (t' := s'.toks) (fun b o hb e => (sb.2 b hb).trans e) f0 f1 f3 f4 f5, rfl, q⟩
/-- a name is given to it -/
theorem ps_setDn {start : Addr → HO} {st : DSt} {out : Addr → HO → HO → Prop} (kd : DKd X start st out) {i : Nat} {y : Str} {py spos : Pos} {ke ve tgt src : Expr} {conds : List Expr} {sc : Scope} {bn : List (Str × Nat)} {p1 : Pos} {wi : TI} {g : TG} {tt : TT} {tk tv : TE} (calm : X.calm = true) (nodup : X.N.Nodup)
    (at_ : X.N[i]? = some y) (loc : X.env.scope.names.lookup y = some .local) (sw : swapsWith (.DictComp ke ve [⟨tgt, src, conds, 0⟩] sc p1) (some (.Name y py)) spos.line X.env = pure true) (pi : PI X tgt src wi) (bo : BlkOk X.N X.env.scope sc bn)
    (bg : BlkAll X sc fun Y => PG Y tgt g) (bt : BlkAll X sc fun Y => PTs Y conds tt) (bk : BlkAll X sc fun Y => PE Y ke tk) (bv : BlkAll X sc fun Y => PE Y ve tv) (fold : ∀ x, foldedSetIterable src X.env x = pure x) :
    PS X (.Assign [.Name y py] (.DictComp ke ve [⟨tgt, src, conds, 0⟩] sc p1) spos) (tAsg (tDn start st out wi g tt tk tv (bn.map (·.2))) (gName i)) := by
  constructor
  intro pins s σ H D I h
  rw [exec_Assign_Name_used _ _ _ _ sw]
  refine wpAny_bind (wpAny_standAt (wpAny_bind ?_))
  show wpAny _ X.A (do let _ ← comprehension (.DictComp ke ve [⟨tgt, src, conds, 0⟩] sc p1) sc X.env (firstIterPos [⟨tgt, src, conds, 0⟩] p1) newDict false (eval src X.env) (some (assign (.Name y py) X.env))) _ _ s
  have h : tDn start st out wi g tt tk tv (bn.map (·.2)) σ H (fun x H1 => gName i x σ H1 D.nx) := h
  refine wpAny_bind (thn (dn_core (Qf := fun _ s' => SP X pins D .next s') kd calm nodup I pi bo bg bt bk bv fold h ?_) fun _ s' hq => wpAny_pure (wpAny_pure hq))
  rintro L C s' m H' I' q ns ⟨f0, f1, f2, f3, f4, f5⟩
  show wpAny _ _ (assign (.Name y py) X.env (.ref L)) _ _ _
  refine wpAny_assign_Name (store_ok2 (v := V.ref L) I' nodup at_ (.inl loc) rfl ?_ (.inr loc))
  rintro s2 I2 ⟨a, sb, ha⟩
  have ne : C ≠ a := by
    intro e
    rcases ha with z | z
    · exact f1 (e.trans z)
    · exact f4 y a z e.symm
  refine ⟨m, ns.sameBut sb ne, ?_⟩
  intro h3 sb3
  exact ⟨_, H', I2.turned (t' := s2.toks) (fun b o hb e => (sb3.2 b hb).trans e) f0 f1 f3 f4 f5, q⟩
theorem sw_dict {ke ve : Expr} {gs : List Comprehension} {sc : Scope} {pos py : Pos} {y : Str} {l : Nat} {env : Env} (hk : env.scope.kind = .function) (hy : env.scope.names.lookup y = some .local) (hl : (py.line == pos.line) = true)
    (ha : (sc.names.any fun (n, k) => n == y && (k == .local || k == .cell)) = false) : swapsWith (.DictComp ke ve gs sc pos) (some (.Name y py)) l env = pure true := by
  have kind : env.kindOf y = some .local := hy
  have blk : env.blockKind = .function := by
    unfold Env.blockKind
    rw [hk]
    rfl
  unfold swapsWith
  simp only [blk, kind, ha, Expr.pos, hl]
  rfl
/-! the two kinds -/
theorem upd_id {H : Hp} {a : Addr} {o : HO} (h : H a = some o) : upd H a o = H := by
  funext b
  by_cases e : b = a
  · rw [e, upd_same, h]
  · rw [upd_ne e]
/-- keys that are texts or numbers: seen as one's own object till the end -/
def dsO (P : Program) (w : World) (D : Addr) (kvs : List (Key × V)) : HO := .ext fun h => ObjOk P w (fun _ => none) h D (.dK kvs)
theorem dk_any {P : Program} {w : World} {H H' : Hp} {h : Heap} {a : Addr} {kvs : List (Key × V)} (z : ObjOk P w H h a (.dK kvs)) : ObjOk P w H' h a (.dK kvs) := z
theorem dk_there {P : Program} {w : World} {H : Hp} {h : Heap} {a : Addr} {kvs : List (Key × V)} (z : ObjOk P w H h a (.dK kvs)) : ∃ o, h.get? a = some o := by
  obtain ⟨_, _, vs, _, o, _, _, e, _⟩ := z
  exact ⟨o, e⟩
theorem ds_ok {P : Program} {w : World} {H : Hp} {h : Heap} {a : Addr} {kvs : List (Key × V)} (z : ObjOk P w H h a (.dK kvs)) : ObjOk P w H h a (dsO P w a kvs) := by
  show ObjOk P w (fun _ => none) h a (.dK kvs) ∧ (∃ o, h.get? a = some o) ∧ ∀ h1 h2 : Heap, ObjOk P w (fun _ => none) h1 a (.dK kvs) → (∀ o, h1.get? a = some o → h2.get? a = some o) → ObjOk P w (fun _ => none) h2 a (.dK kvs)
  refine ⟨z, dk_there z, ?_⟩
  rintro h1 h2 ⟨z1, z2, vs, rel, o, es, ep, e, rest⟩ k
  exact ⟨z1, z2, vs, rel, o, es, ep, k _ e, rest⟩
theorem ds_of {P : Program} {w : World} {H : Hp} {h : Heap} {a : Addr} {kvs : List (Key × V)} (z : ObjOk P w H h a (dsO P w a kvs)) : ObjOk P w H h a (.dK kvs) := z.1
/-- an object is seen in another way -/
theorem retag {X : Cx} {pins : List (Addr × Obj)} {σ : L2.St} {H : Hp} {s : Shared} {D : Addr} {o o' : HO} (I : Inv X pins σ H s) (hD : H D = some o) (mu : Mut (some o)) (ok : ∀ H', ObjOk X.prog X.w H s.heap D o → ObjOk X.prog X.w H' s.heap D o') (there : ∃ u, s.heap.get? D = some u) : Inv X pins σ (upd H D o') s :=
  I.write (x := D) (e := D) (o := o') (by rw [hD]; exact mu) (.inl rfl) (fun b o n e => e) there (ok _ (I.hok D _ hD))
def dsStart (P : Program) (w : World) : Addr → HO := fun D => dsO P w D []
def dsSt (P : Program) (w : World) : DSt := fun D y z H Nx => ∃ kvs k, y = kV k ∧ H D = some (dsO P w D kvs) ∧ kvs.length < sizeLine ∧ Nx (upd H D (dsO P w D (putK kvs k z)))
def dsOut (P : Program) (w : World) : Addr → HO → HO → Prop := fun D o o' => ∃ kvs, o = dsO P w D kvs ∧ o' = .dK kvs
theorem upd2 {H : Hp} {a : Addr} {o o' : HO} : upd (upd H a o) a o' = upd H a o' := by
  funext b
  by_cases e : b = a
  · rw [e, upd_same, upd_same]
  · rw [upd_ne e, upd_ne e, upd_ne e]
theorem ds_kind : DKd X (dsStart X.prog X.w) (dsSt X.prog X.w) (dsOut X.prog X.w) := by
  constructor
  · intro H h big
    exact ds_ok (dk_empty h big)
  · rintro pins σ H s D o o' I hD ⟨kvs, rfl, rfl⟩
    have z : ObjOk X.prog X.w H s.heap D (dsO X.prog X.w D kvs) := I.hok D _ hD
    exact retag I hD trivial (fun H' q => dk_any (ds_of q)) (dk_there (ds_of z))
  · rintro s0 H0 sc en fp pins σ H s D y z u r Q E Nx I ry rz ⟨kvs, k, rfl, hD, lt, nx⟩ h
    have q : ObjOk X.prog X.w H s.heap D (dsO X.prog X.w D kvs) := I.hok D _ hD
    have I2 := retag (o' := .dK kvs) I hD trivial (fun H' q => dk_any (ds_of q)) (dk_there (ds_of q))
    refine d_dictSet (X := X.blk s0 H0 sc en fp) I2 upd_same lt ry rz ?_
    intro s' I'
    rw [upd2] at I'
    have q' : ObjOk X.prog X.w (upd H D (.dK (putK kvs k z))) s'.heap D (.dK (putK kvs k z)) := I'.hok D _ upd_same
    have I3 := retag (o' := dsO X.prog X.w D (putK kvs k z)) I' upd_same trivial (fun H' q => ds_ok (dk_any q)) (dk_there q')
    rw [upd2] at I3
    exact h _ s' I3 nx
def ndStart (P : Program) (w : World) : Addr → HO := fun D => ndO P w D []
def ndSt (P : Program) (w : World) (K : PySem.W.Frag) : DSt := fun D y z H Nx => ∃ kvs a k, y = .ref a ∧ H D = some (ndO P w D kvs) ∧ NDk K H kvs ∧ NK K H (.ref a) k ∧ k.depth ≤ 8 ∧ ndGet kvs k = none ∧ kvs.length < sizeLine ∧ Nx (upd H D (ndO P w D (kvs ++ [(k, a, z)])))
theorem nd_kind (hu : X.A.units + 9 < cLine) : DKd X (ndStart X.prog X.w) (ndSt X.prog X.w X.K) (fun _ o o' => o = o') := by
  constructor
  · intro H h big
    refine ndP.ok ⟨Nat.zero_le _, beq_eq_false_iff_ne.mpr (Ne.symm (Nat.ne_of_lt big)), [], .nil, List.nodup_nil, _, #[], 0, Heap.get?_push_size _ rfl, ⟨rfl, rfl, rfl⟩, rfl, rfl⟩
  · rintro pins σ H s D o o' I hD rfl
    rw [upd_id hD]
    exact I
  · rintro s0 H0 sc en fp pins σ H s D y z u r Q E Nx I ry rz ⟨kvs, a, k, rfl, hd, hk, na, dp, no, sz, nx⟩ h
    cases ry
    obtain ⟨ns, le, xs, p, dk⟩ := nd_heap I hd hk
    have xl := Paired.length p
    have at0 := nd_none p no
    refine wpAny_dictSet_heap (knd := nestedKind X.prog X.w) (hsz := by omega) (by show X.A.units + 8 < cLine; omega) ⟨NK.is I na rfl, dp⟩ dk ?_
    intro h' dk' sb
    refine h _ _ (I.write (x := D) (e := D) (o := ndO X.prog X.w D (kvs ++ [(k, a, z)])) (by rw [hd]; trivial) (.inl rfl) (fun b o n e => by rw [sb.2 b n]; exact e) ?_ (ndP.ok ?_)) nx
    · obtain ⟨o, es, ep, e, _⟩ := dk'
      exact ⟨o, e⟩
    · have stored : storedH xs k a r = xs ++ [(k, a, r)] := by
        unfold storedH
        rw [at0]
        rfl
      rw [stored] at dk'
      obtain ⟨o, es, ep, e, x1, x2, x3, x4, x5⟩ := dk'
      refine ⟨by rw [List.length_append]; simp only [List.length_cons, List.length_nil]; omega, ns, xs ++ [(k, a, r)], Paired.snoc p ⟨rfl, rfl, rz⟩, x5, o, es, ep, e, x1, x2, x3⟩
end
end Gx

/-! dicts in the typed layer: with nested keys, one's own; with texts as keys, that stay -/
namespace Tx
open PySem PySem.Spec PyProof.Rows L2 Gx
/-- what a table holds at a key -/
def getK {κ β : Type} [DecidableEq κ] (xs : List (κ × β)) (k : κ) : Option β := (xs.find? fun p => decide (p.1 = k)).map (·.2)
theorem getK_nil {κ β : Type} [DecidableEq κ] {k : κ} : getK ([] : List (κ × β)) k = none := rfl
theorem getK_cons {κ β : Type} [DecidableEq κ] {p : κ × β} {xs : List (κ × β)} {k : κ} : getK (p :: xs) k = if p.1 = k then some p.2 else getK xs k := by
  unfold getK
  by_cases h : p.1 = k
  · rw [List.find?_cons_of_pos (by simpa using h), if_pos h]
    rfl
  · rw [List.find?_cons_of_neg (by simpa using h), if_neg h]
theorem getK_app {κ β : Type} [DecidableEq κ] {p : κ × β} {xs : List (κ × β)} {k : κ} : getK (xs ++ [p]) k = (getK xs k).or (if p.1 = k then some p.2 else none) := by
  induction xs with
  | nil => rw [List.nil_append, getK_cons, getK_nil]; rfl
  | cons x xs ih =>
    rw [List.cons_append, getK_cons, getK_cons, ih]
    by_cases h : x.1 = k
    · rw [if_pos h, if_pos h]; rfl
    · rw [if_neg h, if_neg h]
/-- data that can be keys, or stand in them -/
structure KV {κ : Type} (K : PySem.W.Frag) (SK : Rp κ) (kf : κ → NestedKey) (n : Nat) : Prop where
  nk : ∀ {W : WS} {H : Hp} {v : V} {x : κ}, SK.r K W H v x → NK K H v (kf x)
  dp : ∀ x, (kf x).depth ≤ n
  inj : ∀ {x y : κ}, kf x = kf y → x = y
structure KR {κ : Type} (K : PySem.W.Frag) (SK : Rp κ) (kf : κ → NestedKey) : Prop where
  nk : ∀ {W : WS} {H : Hp} {v : V} {x : κ}, SK.r K W H v x → ∃ a, v = .ref a ∧ NK K H (.ref a) (kf x)
  dp : ∀ x, (kf x).depth ≤ 8
  inj : ∀ {x y : κ}, kf x = kf y → x = y
section
variable {K : PySem.W.Frag}
theorem kv_str : KV K strR .text 0 := ⟨fun h => by rw [show _ = _ from h]; exact .str _, fun _ => Nat.le_refl _, fun h => by injection h⟩
theorem kv_int : KV K intR .num 0 := ⟨fun h => by rw [show _ = _ from h]; exact .int _, fun _ => Nat.le_refl _, fun h => by injection h⟩
def kTup {κ : Type} (f : κ → NestedKey) (xs : List κ) : NestedKey := .tup (xs.map f)
def kPr {κ τ : Type} (f : κ → NestedKey) (g : τ → NestedKey) (x : κ × τ) : NestedKey := .tup [f x.1, g x.2]
theorem depthAll_le {ks : List NestedKey} {n : Nat} (h : ∀ k ∈ ks, k.depth ≤ n) : NestedKey.depthAll ks ≤ n := by
  induction ks with
  | nil => exact Nat.zero_le _
  | cons k ks ih =>
    show max _ _ ≤ n
    have a := h k List.mem_cons_self
    have b := ih fun z hz => h z (List.mem_cons_of_mem _ hz)
    omega
theorem nks_of {κ : Type} {SK : Rp κ} {f : κ → NestedKey} {n : Nat} (h : KV K SK f n) {W : WS} {H : Hp} : ∀ {vs : List V} {xs : List κ}, Paired (SK.r K W H) vs xs → NKs K H vs (xs.map f)
  | _, _, .nil => .nil
  | _, _, .cons a t => .cons (h.nk a) (nks_of h t)
theorem map_inj {κ τ : Type} {f : κ → τ} (h : ∀ {x y : κ}, f x = f y → x = y) : ∀ {xs ys : List κ}, xs.map f = ys.map f → xs = ys
  | [], [], _ => rfl
  | [], _ :: _, e => by cases e
  | _ :: _, [], e => by cases e
  | x :: xs, y :: ys, e => by
    simp only [List.map_cons, List.cons.injEq] at e
    rw [h e.1, map_inj h e.2]
theorem kv_tup {κ : Type} {SK : Rp κ} {f : κ → NestedKey} {n : Nat} (h : KV K SK f n) : KV K (tupR SK) (kTup f) (n + 1) := by
  refine ⟨?_, fun x => ?_, fun {x y} e => ?_⟩
  · rintro W H v x ⟨a, vs, rfl, t, p⟩
    exact .tup t.sq (nks_of h p)
  · show NestedKey.depthAll _ + 1 ≤ n + 1
    have := depthAll_le (ks := x.map f) (n := n) fun k hk => by
      obtain ⟨z, _, rfl⟩ := List.mem_map.mp hk
      exact h.dp z
    omega
  · injection e with e
    exact map_inj h.inj e
theorem kv_pr {κ τ : Type} {SK : Rp κ} {ST : Rp τ} {f : κ → NestedKey} {g : τ → NestedKey} {n m : Nat} (h : KV K SK f n) (k : KV K ST g m) : KV K (prR SK ST) (kPr f g) (max n m + 1) := by
  refine ⟨?_, fun x => ?_, fun {x y} e => ?_⟩
  · rintro W H v x ⟨a, v1, v2, rfl, t, p, q⟩
    exact .tup t.sq (.cons (h.nk p) (.cons (k.nk q) .nil))
  · show max (f x.1).depth (max (g x.2).depth 0) + 1 ≤ max n m + 1
    have := h.dp x.1
    have := k.dp x.2
    omega
  · injection e with e
    injection e with e1 e2
    injection e2 with e2 _
    exact Prod.ext (h.inj e1) (k.inj e2)
theorem kr_tup {κ : Type} {SK : Rp κ} {f : κ → NestedKey} {n : Nat} (h : KV K SK f n) (le : n ≤ 7) : KR K (tupR SK) (kTup f) := by
  have z := kv_tup h
  refine ⟨?_, fun x => Nat.le_trans (z.dp x) (by omega), z.inj⟩
  intro W H v x r
  have q := z.nk r
  obtain ⟨a, vs, rfl, t, p⟩ := r
  exact ⟨a, rfl, q⟩
theorem kr_pr {κ τ : Type} {SK : Rp κ} {ST : Rp τ} {f : κ → NestedKey} {g : τ → NestedKey} {n m : Nat} (h : KV K SK f n) (k : KV K ST g m) (le : n ≤ 7 ∧ m ≤ 7) : KR K (prR SK ST) (kPr f g) := by
  have z := kv_pr h k
  refine ⟨?_, fun x => Nat.le_trans (z.dp x) (by omega), z.inj⟩
  intro W H v x r
  have q := z.nk r
  obtain ⟨a, v1, v2, rfl, t, p⟩ := r
  exact ⟨a, rfl, q⟩
end
/-! ### the objects -/
section
variable {κ β : Type}
def NDp (K : PySem.W.Frag) (W : WS) (H : Hp) (SK : Rp κ) (kf : κ → NestedKey) (S : Rp β) : NDv → κ × β → Prop := fun p q => p.1 = kf q.1 ∧ SK.r K W H (.ref p.2.1) q.1 ∧ S.r K W H p.2.2 q.2
/-- an own dict with nested keys -/
def ndR (P : Program) (w : World) (SK : Rp κ) (kf : κ → NestedKey) (S : Rp β) : Ro (List (κ × β)) := ⟨fun K W H D o xs => ∃ kvs, o = ndO P w D kvs ∧ Paired (NDp K W H SK kf S) kvs xs,
  fun g ⟨kvs, e, p⟩ => ⟨kvs, e, Paired.imp2 (fun _ _ ⟨a, b, c⟩ => ⟨a, SK.mono g b, S.mono g c⟩) p⟩, fun ⟨kvs, e, _⟩ => .inl ⟨_, e⟩⟩
def DSp (K : PySem.W.Frag) (W : WS) (H : Hp) (S : Rp β) : Key × V → Str × β → Prop := fun p q => p.1 = .inr q.1 ∧ S.r K W H p.2 q.2
/-- a dict with texts as keys, in the making -/
def dsR (P : Program) (w : World) (S : Rp β) : Ro (List (Str × β)) := ⟨fun K W H D o xs => ∃ kvs, o = dsO P w D kvs ∧ Paired (DSp K W H S) kvs xs,
  fun g ⟨kvs, e, p⟩ => ⟨kvs, e, Paired.imp2 (fun _ _ ⟨a, b⟩ => ⟨a, S.mono g b⟩) p⟩, fun ⟨kvs, e, _⟩ => .inl ⟨_, e⟩⟩
/-- .. that stays -/
def dicR (S : Rp β) : Rp (List (Str × β)) := ⟨fun K W H v xs => ∃ a kvs, v = .ref a ∧ ¬ W a ∧ H a = some (.dK kvs) ∧ Paired (DSp K W H S) kvs xs,
  fun g ⟨a, kvs, e, n, h, p⟩ => ⟨a, kvs, e, (g _ _ n h).1, (g _ _ n h).2, Paired.imp2 (fun _ _ ⟨a, b⟩ => ⟨a, S.mono g b⟩) p⟩⟩
variable [DecidableEq κ] {K : PySem.W.Frag} {W : WS} {H : Hp} {SK : Rp κ} {kf : κ → NestedKey} {S : Rp β}
theorem NDp.keys (kr : KR K SK kf) {kvs : List NDv} {xs : List (κ × β)} (p : Paired (NDp K W H SK kf S) kvs xs) : NDk K H kvs := by
  intro z hz
  obtain ⟨q, hq, h1, h2, _⟩ := Paired.of_mem p hz
  obtain ⟨a, e, nk⟩ := kr.nk h2
  rw [h1]
  refine ⟨?_, kr.dp _⟩
  rw [e]
  exact nk
theorem NDp.get (kr : KR K SK kf) {kvs : List NDv} {xs : List (κ × β)} (p : Paired (NDp K W H SK kf S) kvs xs) (k : κ) : (ndGet kvs (kf k) = none ∧ getK xs k = none) ∨ ∃ v y, ndGet kvs (kf k) = some v ∧ getK xs k = some y ∧ S.r K W H v y := by
  induction p with
  | nil => exact .inl ⟨rfl, rfl⟩
  | @cons a b as bs h t ih =>
    by_cases e : b.1 = k
    · refine .inr ⟨a.2.2, b.2, ?_, ?_, h.2.2⟩
      · unfold ndGet
        rw [List.find?_cons_of_pos (by simp [h.1, e])]
        rfl
      · rw [getK_cons, if_pos e]
    · have ne : ¬ a.1 = kf k := fun z => e (kr.inj (h.1.symm.trans z))
      have e1 : ndGet (a :: as) (kf k) = ndGet as (kf k) := by
        unfold ndGet
        rw [List.find?_cons_of_neg (by simpa using ne)]
      rw [e1, getK_cons, if_neg e]
      exact ih
theorem DSp.get {kvs : List (Key × V)} {xs : List (Str × β)} (p : Paired (DSp K W H S) kvs xs) (k : Str) : (valV kvs (Sum.inr k) = none ∧ getK xs k = none) ∨ ∃ v y, valV kvs (Sum.inr k) = some v ∧ getK xs k = some y ∧ S.r K W H v y := by
  induction p with
  | nil => exact .inl ⟨rfl, rfl⟩
  | @cons a b as bs h t ih =>
    by_cases e : b.1 = k
    · refine .inr ⟨a.2, b.2, valV_pos (by rw [h.1, e]), ?_, h.2⟩
      rw [getK_cons, if_pos e]
    · have ne : ¬ a.1 = Sum.inr k := fun z => e (Sum.inr.inj (h.1.symm.trans z))
      rw [valV_neg ne, getK_cons, if_neg e]
      exact ih
theorem putK_new {kvs : List (Key × V)} {k : Key} {v : V} (h : valV kvs k = none) : putK kvs k v = kvs ++ [(k, v)] := by
  unfold putK
  rw [if_neg]
  intro z
  rw [List.any_eq_true] at z
  obtain ⟨p, hp, e⟩ := z
  unfold valV at h
  rw [Option.map_eq_none_iff, List.find?_eq_none] at h
  exact h p hp e
end
/-! ### what is walked by a comprehension: one's own list, too -/
structure ItX {E α : Type} (K : PySem.W.Frag) (c : Bc) (L : List (Sl E)) (own : Own) (H1 : Hp) (S : Rp α) (xs : List α) (G : Hp → Prop) (Y : Nat → Hp → V → Hp → Prop) : Prop where
  g : ∀ H2, (∀ a o, ¬ Sr L own a → H1 a = some o → H2 a = some o) → G H2
  y : ∀ D H2 H3 i v, H1 D = none → (∀ a o, ¬ Sr L own a → H1 a = some o → H2 a = some o) → (∀ l, H2 l = none → ¬ Wb (withD c D) own l) → i < xs.length → Y i H2 v H3 → Same H2 H3 ∧ ∃ x, xs[i]? = some x ∧ S.r K (Wb (withD c D) own) H3 v x
structure TItX {E α : Type} {ι : Type} (X : ι → Cx) (K : PySem.W.Frag) (L : List (Sl E)) (S : Rp α) (tg iter : Expr) (w : E → (List α → Prop) → Prop) : Prop where
  mono : Mono w
  ex : ∃ wi, (∀ i, PI (X i) tg iter wi) ∧ ∀ (c : Bc) (σ : L2.St) (H : Hp) (env : E) (own : Own) (Q : It → Hp → Prop), St K c L σ H env own → w env (fun xs => ∀ J H1 G Y, Ex L own H H1 → Walk J xs.length G Y → ItX K c L own H1 S xs G Y → Q J H1) → wi σ H Q
section
variable {E α ι : Type} {X : ι → Cx} {K : PySem.W.Frag} {L : List (Sl E)} {S : Rp α} {tg e : Expr} {pos p : Pos}
theorem TIt.x {w : E → (List α → Prop) → Prop} (h : TIt X K L S tg e w) : TItX X K L S tg e w := by
  obtain ⟨wi, pi, f⟩ := h.ex
  refine ⟨h.mono, wi, pi, fun c σ H env own Q s hw => f c σ H env own Q s (h.mono _ _ _ (fun xs hx J H1 G Y x1 wk ok => hx J H1 G Y x1 wk ⟨fun H2 k => ?_, fun D H2 H3 i v hD k fr hi y => ?_⟩) hw)⟩
  · exact ok.g (Wb c own) H2 fun a o n h => ⟨n, k a o (fun z => n z.wb) h⟩
  · exact ok.y _ H2 H3 i v (geD hD fun a o n h => k a o (fun z => n z.wb) h) fr hi y
theorem itx_enumO {g : E → List α} {i : Nat} {x : Str} {p2 : Pos} {es : List Expr} {kk : Nat} {tpos : Pos} (hL : L[i]? = some (.ow S g)) (hN : ∀ j, (X j).N[i]? = some x) (hv : ∀ j, Vis (X j).env.scope x) (hg : ∀ j, Gl (X j) "enumerate") (hm : ∀ j, (X j).mg "enumerate" = none) (hK : ∀ j, (X j).K = K := by intro _; rfl)
    (hs : ∀ j, starEach [.Name x p2] (X j).env = [(false, eval (.Name x p2) (X j).env)] := by intro _; rfl) (hd : (x == ("__debug__" : Str)) = false := by decide) (hcd : (x == ("__classdict__" : Str)) = false := by decide) :
    TItX X K L (prR intR S) (.Tuple es kk tpos) (.Call (.Name "enumerate" p) [.Name x p2] [] pos) (fun env k => k ((g env).zipIdx.map fun q => ((q.2 : Int), q.1))) := by
  refine ⟨fun e k k' hk hw => hk _ hw, _, fun j => by
    have z := pi_enum (elts := es) (kk := kk) (tpos := tpos) (pos := pos) (p := p) (hg j) (hm j) (pa_cons (pe_var (pos := p2) (hN j) (hv j) hd hcd) pa_nil (hs j)) (hs j)
    rw [hK j] at z
    exact z, fun c σ H env own Q s hw => ?_⟩
  obtain ⟨a, vs, h1, h2, h3, h4, h5⟩ := s.slot i _ hL
  have ll := Paired.length h5
  have nsr : ¬ Sr L own a := fun ⟨j, hj, oj⟩ => by
    have := s.inj i j a h1 oj
    subst this
    rw [hL] at hj
    cases hj
  refine ⟨.ref a, h2, a, vs, rfl, SqL.of h4, hw _ H (fun H2 => SqL K H2 a vs) _ s.exRefl (by rw [List.length_map, List.length_zipIdx, ← ll]; exact walk_enum) ⟨fun H2 k => SqL.of (k _ _ nsr h4), fun D H2 H3 i v hD k fr hi y => ?_⟩⟩
  obtain ⟨T, u, w, rfl, hT, rfl, hu, hw'⟩ := y
  cases hu
  obtain ⟨x, hx2, rx⟩ := Paired.at2 h5 hw'
  refine ⟨Same.new hT, ((i : Int), x), ?_, T, .int (i : Nat), w, rfl, TW.of (fr T hT) upd_same, rfl, S.mono ((geD hD fun a o n h => k a o (fun z => n z.wb) h).trans (Ge.same (Same.new hT))) rx⟩
  rw [List.getElem?_map, List.getElem?_zipIdx, hx2]
  simp
end
/-! ### comprehensions -/
/-- what a kind of dict in the making is for -/
structure DTy {κ β : Type} [DecidableEq κ] (K : PySem.W.Frag) (SK : Rp κ) (S : Rp β) (R : Ro (List (κ × β))) (start : Addr → HO) (st : DSt) : Prop where
  start : ∀ (W : WS) (H : Hp) (D : Addr), R.r K W H D (start D) []
  put : ∀ (W : WS) (H : Hp) (D : Addr) (o : HO) (xs : List (κ × β)) (y z : V) (k : κ) (u : β) (Nx : Hp → Prop), W D → H D = some o → R.r K W H D o xs → SK.r K W H y k → S.r K W H z u → getK xs k = none → xs.length < sizeLine →
    (∀ o', R.r K W (upd H D o') D o' (xs ++ [(k, u)]) → OwO (some o') → Nx (upd H D o')) → st D y z H Nx
theorem geU {W : WS} {H : Hp} {D : Addr} {o : HO} (w : W D) : Ge W H W (upd H D o) := fun a u n h => ⟨n, by rw [upd_ne (fun z => n (by rw [z]; exact w))]; exact h⟩
theorem nd_ty {κ β : Type} [DecidableEq κ] {K : PySem.W.Frag} {P : Program} {w : World} {SK : Rp κ} {kf : κ → NestedKey} {S : Rp β} (kr : KR K SK kf) : DTy K SK S (ndR P w SK kf S) (ndStart P w) (ndSt P w K) := by
  refine ⟨fun W H D => ⟨[], rfl, .nil⟩, ?_⟩
  rintro W H D o xs y z k u Nx wD hD ⟨kvs, rfl, p⟩ rk rz no lt h
  have len := Paired.length p
  obtain ⟨a, rfl, nk⟩ := kr.nk rk
  refine ⟨kvs, a, kf k, rfl, hD, NDp.keys kr p, nk, kr.dp k, ?_, by omega, ?_⟩
  · rcases NDp.get kr p k with ⟨e, _⟩ | ⟨v, y, _, e, _⟩
    · exact e
    · rw [no] at e
      cases e
  · refine h _ ⟨_, rfl, ?_⟩ (.inr ⟨_, rfl, .inl ⟨_, rfl⟩⟩)
    exact Paired.imp2 (fun _ _ ⟨a, b, c⟩ => ⟨a, SK.mono (geU wD) b, S.mono (geU wD) c⟩) (Paired.snoc p ⟨rfl, rk, rz⟩)
theorem ds_ty {β : Type} {K : PySem.W.Frag} {P : Program} {w : World} {S : Rp β} : DTy K strR S (dsR P w S) (dsStart P w) (dsSt P w) := by
  refine ⟨fun W H D => ⟨[], rfl, .nil⟩, ?_⟩
  rintro W H D o xs y z k u Nx wD hD ⟨kvs, rfl, p⟩ rk rz no lt h
  have len := Paired.length p
  refine ⟨kvs, .inr k, rk, hD, by omega, ?_⟩
  have new : valV kvs (Sum.inr k) = none := by
    rcases DSp.get p k with ⟨e, _⟩ | ⟨v, y, _, e, _⟩
    · exact e
    · rw [no] at e
      cases e
  rw [putK_new new]
  refine h _ ⟨_, rfl, ?_⟩ (.inr ⟨_, rfl, .inl ⟨_, rfl⟩⟩)
  exact Paired.imp2 (fun _ _ ⟨a, b⟩ => ⟨a, S.mono (geU wD) b⟩) (Paired.snoc p ⟨rfl, rz⟩)
def wDc {E α κ β : Type} [DecidableEq κ] (wt : E × α → (Bool → Prop) → Prop) (wk : E × α → (κ → Prop) → Prop) (wv : E × α → (β → Prop) → Prop) : List α → List (κ × β) → E → (List (κ × β) → Prop) → Prop
  | [], acc, _, k => k acc
  | x :: xs, acc, e, k => wt (e, x) fun b => if b = true then wk (e, x) fun y => wv (e, x) fun z => getK acc y = none ∧ wDc wt wk wv xs (acc ++ [(y, z)]) e k else wDc wt wk wv xs acc e k
theorem wDc.mono {E α κ β : Type} [DecidableEq κ] {wt : E × α → (Bool → Prop) → Prop} {wk : E × α → (κ → Prop) → Prop} {wv : E × α → (β → Prop) → Prop} (ht : Mono wt) (hk : Mono wk) (hv : Mono wv) : ∀ (xs : List α) (acc : List (κ × β)) (e : E) (k k' : List (κ × β) → Prop), (∀ x, k x → k' x) → wDc wt wk wv xs acc e k → wDc wt wk wv xs acc e k'
  | [], acc, e, k, k', h, z => h _ z
  | x :: xs, acc, e, k, k', h, z => ht _ _ _ (fun b hb => by
      cases b
      · exact wDc.mono ht hk hv xs acc e k k' h hb
      · exact hk _ _ _ (fun y hy => hv _ _ _ (fun z hz => ⟨hz.1, wDc.mono ht hk hv xs _ e k k' h hz.2⟩) hy) hb) z
section
variable {E α β κ ι : Type} [DecidableEq κ] {X : ι → Cx} {K : PySem.W.Frag} {L : List (Sl E)} {Lin : List (Sl (E × α))} {S : Rp α} {SK : Rp κ} {T : Rp β} {R : Ro (List (κ × β))} {start : Addr → HO} {st : DSt} {out : Addr → HO → HO → Prop} {ke ve tg iter : Expr} {ifs : List Expr} {scope : Scope} {bown : List (Str × Nat)} {pos : Pos} {wi : E → (List α → Prop) → Prop}
theorem dc_both {is : List Nat} {wt : E × α → (Bool → Prop) → Prop} {wk : E × α → (κ → Prop) → Prop} {wv : E × α → (β → Prop) → Prop} (kd : ∀ j, DKd (X j) start st out) (ty : DTy K SK T R start st) {Fi : WS → Hp → Addr → HO → HO → List (κ × β) → Prop} (ho : ∀ {W : WS} {H : Hp} {D : Addr} {o : HO} {xs : List (κ × β)}, R.r K W H D o xs → ∃ o', out D o o' ∧ Fi W H D o o' xs) (hc : ∀ j, (X j).calm = true) (hN : ∀ j, (X j).N.Nodup) (hi : TItX X K L S tg iter wi) (ok : ∀ j, BlkOk (X j).N (X j).env.scope scope bown)
    (okv : ∀ v ∈ bown.map (·.2), okW L v = true) (his : ∀ i ∈ is, i ∈ bown.map (·.2)) (ht : TGt (blkF X scope) K (wipeL L (bown.map (·.2))) S tg is Lin)
    (htt : Mono wt ∧ ∃ tt, (∀ p, PTs (blkF X scope p) ifs tt) ∧ ∀ (c : Bc) (σ : L2.St) (H : Hp) (env : E × α) (own : Own) (Q : Bool → Hp → Prop), St K c Lin σ H env own → wt env (fun b => ∀ H', Ex Lin own H H' → Q b H') → tt σ H Q) (hk : TX (blkF X scope) K Lin SK ke wk) (hv : TX (blkF X scope) K Lin T ve wv)
    (hs : ∀ j x, foldedSetIterable iter (X j).env x = pure x) : (Mono fun env k => wi env fun xs => xs.length ≤ sizeLine ∧ wDc wt wk wv xs [] env k) ∧ ∃ t,
    (∀ (y : Str) (py spos : Pos) (i : Nat), (∀ j, (X j).N[i]? = some y) → (∀ j, (X j).env.scope.names.lookup y = some .local) → (∀ j, swapsWith (.DictComp ke ve [⟨tg, iter, ifs, 0⟩] scope pos) (some (.Name y py)) spos.line (X j).env = pure true) → ∀ j, PS (X j) (.Assign [.Name y py] (.DictComp ke ve [⟨tg, iter, ifs, 0⟩] scope pos) spos) (tAsg t (gName i))) ∧
    ∀ (c : Bc) (σ : L2.St) (H : Hp) (env : E) (own : Own) (Q : VK), St K c L σ H env own →
      (wi env fun xs => xs.length ≤ sizeLine ∧ wDc wt wk wv xs [] env fun zs => ∀ D o o' H', H D = none → Ex L own H H' → H' D = some o → Fi (fun a => Wb c own a ∨ a = D) H' D o o' zs → Q (.ref D) (upd H' D o')) → t σ H Q := by
  obtain ⟨wi', pi, fi⟩ := hi.ex
  obtain ⟨g, pg, fg⟩ := ht.ex
  obtain ⟨mt, tt, pt, ft⟩ := htt
  obtain ⟨tk, pk, fk⟩ := hk.ex
  obtain ⟨tv, pv, fv⟩ := hv.ex
  refine ⟨fun e k k' h hw => hi.mono _ _ _ (fun xs hx => ⟨hx.1, wDc.mono mt hk.mono hv.mono xs [] e k k' h hx.2⟩) hw, tDn start st out wi' g tt tk tv (bown.map (·.2)), fun y py spos i hi hy hsw j => ps_setDn (kd j) (hc j) (hN j) (hi j) (hy j) (hsw j) (pi j) (ok j) (fun s H C cl fp => pg (j, s, H, C, cl, fp)) (fun s H C cl fp => pt (j, s, H, C, cl, fp)) (fun s H C cl fp => pk (j, s, H, C, cl, fp)) (fun s H C cl fp => pv (j, s, H, C, cl, fp)) (hs j), fun c σ H env own Q s hw => ?_⟩
  refine fi c σ H env own _ s (hi.mono _ _ _ (fun xs hx J H1 G Y x1 wk' iok D hD => ?_) hw)
  have s1 := s.ex x1
  have nD := s1.notD hD
  have n0 : c.H0 D = none := (s1.fresh0 hD).1
  have nsD : ¬ Sr L own D := fun ⟨i, _, z⟩ => nD i z
  have wD : Wb (withD c D) own D := .inl (.inr rfl)
  have upE : ∀ {H' : Hp} {o : HO}, Ex L own H1 H' → Ex L own H1 (upd H' D o) := fun {H' o} x => by
    refine ⟨fun a u n h => ?_, fun a z => ?_⟩
    · rw [upd_ne (ne_of_none h hD)]
      exact x.st a u n h
    · obtain ⟨p, q, e, r⟩ := x.sr a z
      refine ⟨p, q, ?_, r⟩
      rw [upd_ne (fun w => nsD (by rw [← w]; exact z))]
      exact e
  have r0 : ∀ H', R.r K (Wb (withD c D) own) H' D (start D) [] := fun H' => ty.start _ H' D
  have o0 : OwO (some (start D)) := by
    have e := R.ext (r0 H1)
    exact .inr ⟨_, rfl, e⟩
  let Pv : Nat → Hp → Prop := fun i H' => ∃ o acc, H' D = some o ∧ R.r K (Wb (withD c D) own) H' D o acc ∧ acc.length ≤ i ∧ Ex L own H1 H' ∧ St K (withD c D) L σ H' env own ∧
    wDc wt wk wv (xs.drop i) acc env (fun zs => ∀ D o o' H', H D = none → Ex L own H H' → H' D = some o → Fi (fun a => Wb c own a ∨ a = D) H' D o o' zs → Q (.ref D) (upd H' D o'))
  have keep : ∀ i H', Pv i H' → G H' := fun i H' ⟨o, acc, eD, ra, la, x', s', hw'⟩ => iok.g H' x'.st
  refine ⟨fun i m H' => m = xs.length - i ∧ i ≤ xs.length ∧ Pv i H', ⟨xs.length, by omega, Nat.zero_le _, start D, [], upd_same, r0 _, Nat.le_refl _, upE s1.exRefl, s1.withD hD o0, hx.2⟩, fun i m H2 ⟨em, hi2, z⟩ => ?_⟩
  subst em
  rcases Nat.lt_or_ge i xs.length with lt | ge
  · refine .inr ⟨wk'.goes i H2 lt (keep i H2 z), Pv (i + 1), fun H' p' => ⟨xs.length - (i + 1), by omega, rfl, lt, p'⟩, fun v H3 y0 => ?_⟩
    have y := wk'.yields i H2 v H3 lt (keep i H2 z) y0
    obtain ⟨o, acc, eD, ra, la, x', s', hw'⟩ := z
    obtain ⟨k, x, hx', rx⟩ := iok.y D H2 H3 i v hD x'.st (fun l hl => s'.fresh hl) lt y
    have ed : xs.drop i = x :: xs.drop (i + 1) := by
      obtain ⟨h1, h2⟩ := List.getElem?_eq_some_iff.mp hx'
      rw [← h2]
      exact List.drop_eq_getElem_cons h1
    rw [ed] at hw'
    have s3 := s'.ex (s'.exSame k)
    have x3 : Ex L own H1 H3 := x'.trans (s'.exSame k)
    have eD3 := k _ _ eD
    refine fg _ (wipe σ (bown.map (·.2))) H3 env own x v _ (s3.wipe okv) rx ?_
    intro σ2 own2 s2 bd
    refine ⟨bd.ag.wiped his, ?_⟩
    have sr2' : ∀ a, Sr Lin own2 a ↔ Sr L own a := fun a => (bd.sr a).trans (Sr.wipe okv a)
    have back : ∀ {G G' : Hp}, Ex Lin own2 G G' → Ex L own G G' := fun {G G'} z => ⟨fun a o n h => z.st a o (fun w => n ((sr2' a).mp w)) h, fun a w => z.sr a ((sr2' a).mpr w)⟩
    have eqo : ∀ i, own2 i = own i := fun i => by
      by_cases h : i ∈ is
      · have ow : own i = none := by
          have hv := his i h
          have o := okv i hv
          unfold okW at o
          cases q : L[i]? with
          | none => exact s1.out i q
          | some s0 =>
            rw [q] at o
            have q0 := s1.slot i s0 q
            cases s0 with
            | any => exact q0
            | im S g => exact q0.1
            | ow S g => cases o
            | ox R g => cases o
            | sr => cases o
        rw [ow]
        exact bd.no i h
      · exact bd.so i h
    have sameW : ∀ a, Wb (withD c D) own2 a → Wb (withD c D) own a := fun a z => z.imp id fun ⟨i, z⟩ => ⟨i, by rw [← eqo]; exact z⟩
    have bigW : ∀ a, Wb (withD c D) own a → Wb (withD c D) own2 a := fun a z => z.imp id fun ⟨i, z⟩ => ⟨i, by rw [eqo]; exact z⟩
    refine ft _ σ2 H3 (env, x) own2 _ s2 (mt _ _ _ (fun b hb H4 x4 => ?_) hw')
    have s4 := s3.ex (back x4)
    have eD4 : H4 D = some o := (back x4).st _ _ nsD eD3
    have g4 : Ge (Wb (withD c D) own) H2 (Wb (withD c D) own) H4 := (Ge.same k).trans (back x4).ge
    cases b with
    | false =>
      rw [if_neg Bool.false_ne_true] at hb ⊢
      exact ⟨o, acc, eD4, R.mono g4 ra, by omega, x3.trans (back x4), s4, hb⟩
    | true =>
      rw [if_pos rfl] at hb ⊢
      have s24 := s2.ex x4
      refine fk _ σ2 H4 (env, x) own2 _ s24 (hk.mono _ _ _ (fun y hy u H5 x5 r5 => ?_) hb)
      have s25 := s24.ex x5
      refine fv _ σ2 H5 (env, x) own2 _ s25 (hv.mono _ _ _ (fun y2 hy2 u2 H6 x6 r6 => ?_) hy)
      have s5 := s4.ex (back x5)
      have s6 := s5.ex (back x6)
      have eD6 : H6 D = some o := (back x6).st _ _ nsD ((back x5).st _ _ nsD eD4)
      have lx := hx.1
      have rk : SK.r K (Wb (withD c D) own) H6 u y := SK.mono (x6.ge.trans (Ge.less bigW)) r5
      have rv : T.r K (Wb (withD c D) own) H6 u2 y2 := T.mono (Ge.less bigW) r6
      refine ty.put (Wb (withD c D) own) H6 D o acc u u2 y y2 _ wD eD6 (R.mono ((g4.trans (back x5).ge).trans (back x6).ge) ra) rk rv hy2.1 (by omega) (fun o' r' ow => ?_)
      exact ⟨o', acc ++ [(y, y2)], upd_same, r', by simp only [List.length_append, List.length_singleton]; omega, upE (x3.trans (((back x4).trans (back x5)).trans (back x6))), s6.putD nD n0 ow, hy2.2⟩
  · obtain rfl : i = xs.length := by omega
    refine .inl ⟨wk'.stops H2 (keep _ H2 z), ?_⟩
    obtain ⟨o, acc, eD, ra, la, x', s', hw'⟩ := z
    rw [List.drop_length] at hw'
    have less : ∀ a, (Wb c own a ∨ a = D) → Wb (withD c D) own a := by
      rintro a ((z | z) | z)
      · exact .inl (.inl z)
      · exact .inr z
      · exact .inl (.inr z)
    obtain ⟨o', eo, fi⟩ := ho (W := fun a => Wb c own a ∨ a = D) (R.mono (Ge.less less) ra)
    exact ⟨o, o', eD, eo, hw' D o o' H2 (Ex.none s x1 hD) (x1.trans x') eD fi⟩
variable {ρ : Type} {RR : RetR ρ} {L' : List (Sl E)}
/-- x = {k: v for ..}, nested keys: one's own -/
theorem ts_ownD {P : Program} {w : World} {kf : κ → NestedKey} {is : List Nat} {wt : E × α → (Bool → Prop) → Prop} {wk : E × α → (κ → Prop) → Prop} {wv : E × α → (β → Prop) → Prop} {i : Nat} {y : Str} {py spos : Pos} {set : E → List (κ × β) → E} (kr : KR K SK kf) (hP : ∀ j, (X j).prog = P ∧ (X j).w = w ∧ (X j).K = K) (hu : ∀ j, (X j).A.units + 9 < cLine)
    (hc : ∀ j, (X j).calm = true) (hN : ∀ j, (X j).N.Nodup) (hi : TItX X K L S tg iter wi) (ok : ∀ j, BlkOk (X j).N (X j).env.scope scope bown)
    (okv : ∀ v ∈ bown.map (·.2), okW L v = true) (his : ∀ i ∈ is, i ∈ bown.map (·.2)) (ht : TGt (blkF X scope) K (wipeL L (bown.map (·.2))) S tg is Lin)
    (htt : Mono wt ∧ ∃ tt, (∀ p, PTs (blkF X scope p) ifs tt) ∧ ∀ (c : Bc) (σ : L2.St) (H : Hp) (env : E × α) (own : Own) (Q : Bool → Hp → Prop), St K c Lin σ H env own → wt env (fun b => ∀ H', Ex Lin own H H' → Q b H') → tt σ H Q) (hk : TX (blkF X scope) K Lin SK ke wk) (hv : TX (blkF X scope) K Lin T ve wv)
    (hi0 : ∀ j, (X j).N[i]? = some y) (hy : ∀ j, (X j).env.scope.names.lookup y = some .local) (hsw : ∀ j, swapsWith (.DictComp ke ve [⟨tg, iter, ifs, 0⟩] scope pos) (some (.Name y py)) spos.line (X j).env = pure true)
    (hl : ∃ s0, (lift (List (κ × β)) L)[i]? = some s0 ∧ s0 ≠ .sr) (hsub : Sub (fun e : E × List (κ × β) => set e.1 e.2) ((lift (List (κ × β)) L).set i (.ox (ndR P w SK kf T) Prod.snd)) L')
    (hs : ∀ j x, foldedSetIterable iter (X j).env x = pure x := by intro _ _; rfl) : TS1 X K RR L L' (.Assign [.Name y py] (.DictComp ke ve [⟨tg, iter, ifs, 0⟩] scope pos) spos) (fun env k => wi env fun xs => xs.length ≤ sizeLine ∧ wDc wt wk wv xs [] env fun zs => k.nx (set env zs)) := by
  obtain ⟨m, t, p, f⟩ := dc_both (pos := pos) (out := fun _ o o' => o = o') (fun j => by
    have z := nd_kind (X := X j) (hu j)
    rw [(hP j).1, (hP j).2.1, (hP j).2.2] at z
    exact z) (nd_ty (P := P) (w := w) kr) (Fi := fun W H D o o' xs => o = o' ∧ (ndR P w SK kf T).r K W H D o xs) (fun r => ⟨_, rfl, rfl, r⟩) hc hN hi ok okv his ht htt hk hv hs
  refine ⟨fun e k k' hn _ hw => m e (fun zs => k.nx (set e zs)) (fun zs => k'.nx (set e zs)) (fun _ h => hn _ h) hw, _, p y py spos i hi0 hy hsw, fun c σ H env own D s hw => f c σ H env own _ s (m env (fun zs => (kon K RR L' c D).nx (set env zs)) _ (fun zs hz A o o' H' n x' e ⟨eo, r⟩ => ?_) hw)⟩
  subst eo
  rw [upd_id e]
  exact hz _ H' _ (((s.lift zs).setX ⟨fun a o na => x'.st a o fun z => na (Sr.lift.mpr z), fun a z => x'.sr a (Sr.lift.mp z)⟩ hl (ndR P w SK kf T) Prod.snd n e r).sub hsub)
end
section
variable {E α β ι : Type} {X : ι → Cx} {K : PySem.W.Frag} {L : List (Sl E)} {Lin : List (Sl (E × α))} {S : Rp α} {T : Rp β} {ke ve tg iter : Expr} {ifs : List Expr} {scope : Scope} {bown : List (Str × Nat)} {pos : Pos} {wi : E → (List α → Prop) → Prop} {ρ : Type} {RR : RetR ρ} {L' : List (Sl E)}
/-- x = {text: v for ..}: one that stays -/
theorem ts_setD {P : Program} {w : World} {is : List Nat} {wt : E × α → (Bool → Prop) → Prop} {wk : E × α → (Str → Prop) → Prop} {wv : E × α → (β → Prop) → Prop} {i : Nat} {y : Str} {py spos : Pos} {set : E → List (Str × β) → E} (hP : ∀ j, (X j).prog = P ∧ (X j).w = w)
    (hc : ∀ j, (X j).calm = true) (hN : ∀ j, (X j).N.Nodup) (hi : TItX X K L S tg iter wi) (ok : ∀ j, BlkOk (X j).N (X j).env.scope scope bown)
    (okv : ∀ v ∈ bown.map (·.2), okW L v = true) (his : ∀ i ∈ is, i ∈ bown.map (·.2)) (ht : TGt (blkF X scope) K (wipeL L (bown.map (·.2))) S tg is Lin)
    (htt : Mono wt ∧ ∃ tt, (∀ p, PTs (blkF X scope p) ifs tt) ∧ ∀ (c : Bc) (σ : L2.St) (H : Hp) (env : E × α) (own : Own) (Q : Bool → Hp → Prop), St K c Lin σ H env own → wt env (fun b => ∀ H', Ex Lin own H H' → Q b H') → tt σ H Q) (hk : TX (blkF X scope) K Lin strR ke wk) (hv : TX (blkF X scope) K Lin T ve wv)
    (hi0 : ∀ j, (X j).N[i]? = some y) (hy : ∀ j, (X j).env.scope.names.lookup y = some .local) (hsw : ∀ j, swapsWith (.DictComp ke ve [⟨tg, iter, ifs, 0⟩] scope pos) (some (.Name y py)) spos.line (X j).env = pure true)
    (hl : ∃ s0, (lift (List (Str × β)) L)[i]? = some s0 ∧ s0 ≠ .sr) (hsub : Sub (fun e : E × List (Str × β) => set e.1 e.2) ((lift (List (Str × β)) L).set i (.im (dicR T) Prod.snd)) L')
    (hs : ∀ j x, foldedSetIterable iter (X j).env x = pure x := by intro _ _; rfl) : TS1 X K RR L L' (.Assign [.Name y py] (.DictComp ke ve [⟨tg, iter, ifs, 0⟩] scope pos) spos) (fun env k => wi env fun xs => xs.length ≤ sizeLine ∧ wDc wt wk wv xs [] env fun zs => k.nx (set env zs)) := by
  obtain ⟨m, t, p, f⟩ := dc_both (pos := pos) (out := dsOut P w) (fun j => by
    have z := ds_kind (X := X j)
    rw [(hP j).1, (hP j).2] at z
    exact z) (ds_ty (P := P) (w := w) (S := T)) (Fi := fun W H D o o' xs => ∃ kvs, o' = .dK kvs ∧ Paired (DSp K W H T) kvs xs) (fun ⟨kvs, e, pr⟩ => ⟨_, ⟨kvs, e, rfl⟩, kvs, rfl, pr⟩) hc hN hi ok okv his ht htt hk hv hs
  refine ⟨fun e k k' hn _ hw => m e (fun zs => k.nx (set e zs)) (fun zs => k'.nx (set e zs)) (fun _ h => hn _ h) hw, _, p y py spos i hi0 hy hsw, fun c σ H env own D s hw => f c σ H env own _ s (m env (fun zs => (kon K RR L' c D).nx (set env zs)) _ (fun zs hz A o o' H' n x' e ⟨kvs', eo, pr⟩ => ?_) hw)⟩
  subst eo
  have ex2 : Ex L own H (upd H' A (.dK kvs')) := ⟨fun a u na ha => by
    rw [upd_ne (ne_of_none ha n)]
    exact x'.st a u na ha, fun a z => by
    obtain ⟨p, q, e1, r1⟩ := x'.sr a z
    refine ⟨p, q, ?_, r1⟩
    rw [upd_ne (fun w => by
      obtain ⟨_, _, e2, _⟩ := s.sr z
      rw [w, n] at e2
      cases e2)]
    exact e1⟩
  have s2 := s.ex ex2
  exact hz _ _ _ (((s2.lift zs).setI hl (dicR T) Prod.snd ⟨A, kvs', rfl, fun z => s.fresh n z, upd_same, Paired.imp2 (fun _ _ ⟨a, b⟩ => ⟨a, T.mono (fun a u na ha => ⟨fun z => na (.inl z), by rw [upd_ne (fun z => na (.inr z))]; exact ha⟩) b⟩) pr⟩).sub hsub)
end
end Tx

/-! dicts read and written -/
namespace Tx
open PySem PySem.Spec PyProof.Rows L2 Gx
theorem allB {is : List Nat} {f : Nat → Bool} (h : is.all f = true) : ∀ i ∈ is, f i = true := List.all_eq_true.mp h
section
variable {E κ β ρ ι : Type} [DecidableEq κ] {X : ι → Cx} {K : PySem.W.Frag} {R : RetR ρ} {L L' : List (Sl E)} {SK : Rp κ} {S : Rp β} {kf : κ → NestedKey} {P : Program} {w : World} {g : E → List (κ × β)} {a e : Expr} {pos p : Pos} {i : Nat} {x : Str} {wa : E → (κ → Prop) → Prop}
theorem opN {neg : Bool} {r : Program → World → PySem.W.Frag → R2} {op : CmpOp} (h : ∀ {X : Cx}, X.A.units + 9 < cLine → OpR X (compareOp op) (r X.prog X.w X.K)) (hP : ∀ j, (X j).prog = P ∧ (X j).w = w ∧ (X j).K = K) (hu : ∀ j, (X j).A.units + 9 < cLine) (j : ι) : OpR (X j) (compareOp op) (r P w K) := by
  have z := h (hu j)
  rw [(hP j).1, (hP j).2.1, (hP j).2.2] at z
  exact z
/-- k in d, k not in d, as a test -/
theorem tt_inD (neg : Bool) (kr : KR K SK kf) (hL : L[i]? = some (.ox (ndR P w SK kf S) g)) (hN : ∀ j, (X j).N[i]? = some x) (hv : ∀ j, Vis (X j).env.scope x) (hP : ∀ j, (X j).prog = P ∧ (X j).w = w ∧ (X j).K = K) (hu : ∀ j, (X j).A.units + 9 < cLine) (ha : TX X K L SK a wa)
    (hd : (x == ("__debug__" : Str)) = false := by decide) (hcd : (x == ("__classdict__" : Str)) = false := by decide) (hm : behindInMarks (if neg then .NotIn else .In) (.Name x p) = false := by rfl) : TT X K L (.Compare a [if neg then .NotIn else .In] [.Name x p] pos) (fun env k => wa env fun y => k (neg != (getK (g env) y).isSome)) := by
  obtain ⟨t1, p1, f1⟩ := ha.ex
  have op : ∀ j, OpR (X j) (compareOp (if neg then .NotIn else .In)) (rInN P w K neg) := fun j => by
    cases neg
    · exact opN (neg := false) (r := fun P w K => rInN P w K false) op_inN hP hu j
    · exact opN (neg := true) (r := fun P w K => rInN P w K true) op_notInN hP hu j
  refine ⟨fun e k k' h hw => ha.mono _ _ _ (fun y hy => h _ hy) hw, _, fun j => pt_cmpR (op j) (p1 j) (pe_var (hN j) (hv j) hd hcd) hm, fun c σ H env own Q s hw => ?_⟩
  refine f1 c σ H env own _ s (ha.mono _ _ _ (fun y hy v1 H1 x1 r1 => ?_) hw)
  obtain ⟨d, o, h1, h2, h3, h4, kvs, rfl, pr⟩ := (s.ex x1).slot i _ hL
  obtain ⟨ad, rfl, nk⟩ := kr.nk r1
  refine ⟨.ref d, h2, ad, d, kvs, kf y, rfl, rfl, h4, NDp.keys kr pr, nk, kr.dp y, _, rfl, ?_⟩
  have e : (ndGet kvs (kf y)).isSome = (getK (g env) y).isSome := by
    rcases NDp.get kr pr y with ⟨e1, e2⟩ | ⟨v, u, e1, e2, _⟩ <;> rw [e1, e2] <;> rfl
  rw [e]
  exact hy H1 x1
/-- d[k] -/
theorem tx_ixD (kr : KR K SK kf) (hL : L[i]? = some (.ox (ndR P w SK kf S) g)) (hN : ∀ j, (X j).N[i]? = some x) (hv : ∀ j, Vis (X j).env.scope x) (hP : ∀ j, (X j).prog = P ∧ (X j).w = w ∧ (X j).K = K) (hu : ∀ j, (X j).A.units + 9 < cLine) (ha : TX X K L SK a wa) (hs : PlainIx a)
    (hd : (x == ("__debug__" : Str)) = false := by decide) (hcd : (x == ("__classdict__" : Str)) = false := by decide) : TX X K L S (.Subscript (.Name x p) a pos) (fun env k => wa env fun y => ∃ z, getK (g env) y = some z ∧ k z) := by
  obtain ⟨t1, p1, f1⟩ := ha.ex
  have ix : ∀ j, IxR (X j) (rIxN P w K) := fun j => by
    have z := ix_nd (hu j)
    rw [(hP j).1, (hP j).2.1, (hP j).2.2] at z
    exact z
  refine ⟨fun e k k' h hw => ha.mono _ _ _ (fun y ⟨z, h1, h2⟩ => ⟨z, h1, h _ h2⟩) hw, _, fun j => pe_ix (ix j) (pe_var (hN j) (hv j) hd hcd) (p1 j) hs, fun c σ H env own Q s hw => ?_⟩
  obtain ⟨d, o, h1, h2, h3, h4, _⟩ := s.slot i _ hL
  refine ⟨.ref d, h2, f1 c σ H env own _ s (ha.mono _ _ _ (fun y ⟨z, gz, hz⟩ v1 H1 x1 r1 => ?_) hw)⟩
  obtain ⟨d', o', h1', h2', h3', h4', kvs, rfl, pr⟩ := (s.ex x1).slot i _ hL
  rw [h1] at h1'
  cases h1'
  obtain ⟨ad, rfl, nk⟩ := kr.nk r1
  rcases NDp.get kr pr y with ⟨_, e2⟩ | ⟨v, u, e1, e2, rv⟩
  · rw [gz] at e2
    cases e2
  · rw [gz] at e2
    cases e2
    exact ⟨d, ad, kvs, kf y, v, rfl, rfl, h4', NDp.keys kr pr, nk, kr.dp y, e1, hz v H1 x1 rv⟩
/-- d[k] = e, k new -/
theorem ts_putD {set : E → List (κ × β) → E} {we : E → (β → Prop) → Prop} {p2 : Pos} (kr : KR K SK kf) (hL : L[i]? = some (.ox (ndR P w SK kf S) g)) (hN : ∀ j, (X j).N[i]? = some x) (hv : ∀ j, Vis (X j).env.scope x) (hP : ∀ j, (X j).prog = P ∧ (X j).w = w ∧ (X j).K = K) (hu : ∀ j, (X j).A.units + 9 < cLine) (he : TX X K L S e we) (ha : TX X K L SK a wa)
    (hsub : Sub (fun e : E × List (κ × β) => set e.1 e.2) ((lift (List (κ × β)) L).set i (.ox (ndR P w SK kf S) Prod.snd)) L')
    (has : ∀ j v, assign (.Subscript (.Name x p) a p2) (X j).env v = (do
      let ov ← holding [v] (eval (.Name x p) (X j).env)
      let iv ← holding [v, ov] (eval a (X j).env)
      standAt p2
      holding [v, ov, iv] (setItem ov iv v)
      release [v, ov, iv] []) := by intro _ _; rfl)
    (hss : ∀ j, swapsWithSole [.Subscript (.Name x p) a p2] e pos.line (X j).env = pure false := by intro _; rfl) (hsw : ∀ j, swappedStores [.Subscript (.Name x p) a p2] e (X j).env = pure none := by intro _; rfl)
    (h1 : ∀ j, (assignEach [.Subscript (.Name x p) a p2] (X j).env).map (·.2) = [assign (.Subscript (.Name x p) a p2) (X j).env] := by intro _; rfl)
    (hd : (x == ("__debug__" : Str)) = false := by decide) (hcd : (x == ("__classdict__" : Str)) = false := by decide) :
    TS1 X K R L L' (.Assign [.Subscript (.Name x p) a p2] e pos) (fun env k => we env fun v => wa env fun y => getK (g env) y = none ∧ (g env).length < sizeLine ∧ k.nx (set env (g env ++ [(y, v)]))) := by
  obtain ⟨t1, p1, f1⟩ := he.ex
  obtain ⟨t2, p2, f2⟩ := ha.ex
  have put : ∀ j, PSet (X j) (rSetN P w K) := fun j => by
    have z := set_nd (hu j)
    rw [(hP j).1, (hP j).2.1, (hP j).2.2] at z
    exact z
  refine ⟨fun e k k' hn _ hw => he.mono _ _ _ (fun v hv => ha.mono _ _ _ (fun y ⟨h1, h2, h3⟩ => ⟨h1, h2, hn _ h3⟩) hv) hw, _, fun j => ps_asg (p1 j) (pg_sub (pe_var (hN j) (hv j) hd hcd) (p2 j) (put j) (has j)) (hss j) (hsw j) (h1 j), fun c σ H env own D s hw => ?_⟩
  refine f1 c σ H env own _ s (he.mono _ _ _ (fun v hv v1 H1 x1 r1 => ?_) hw)
  have s1 := s.ex x1
  obtain ⟨d, o, q1, q2, q3, q4, _⟩ := s1.slot i _ hL
  refine ⟨.ref d, q2, f2 c σ H1 env own _ s1 (ha.mono _ _ _ (fun y ⟨no, sz, hk⟩ v2 H2 x2 r2 => ?_) hv)⟩
  have s2 := s1.ex x2
  obtain ⟨d', o', q1', q2', q3', q4', kvs, rfl, pr⟩ := s2.slot i _ hL
  rw [q1] at q1'
  cases q1'
  obtain ⟨ad, rfl, nk⟩ := kr.nk r2
  have len := Paired.length pr
  refine ⟨d, ad, kvs, kf y, rfl, rfl, q4', NDp.keys kr pr, nk, kr.dp y, ?_, by omega, ?_⟩
  · rcases NDp.get kr pr y with ⟨e, _⟩ | ⟨v, u, _, e, _⟩
    · exact e
    · rw [no] at e
      cases e
  · exact hk σ _ _ ((s2.putX (x := g env ++ [(y, v)]) hL q1 ⟨_, rfl, Paired.snoc pr ⟨rfl, r2, S.mono x2.ge r1⟩⟩).sub hsub)
end
section
variable {E β ι : Type} {X : ι → Cx} {K : PySem.W.Frag} {L : List (Sl E)} {S : Rp β} {a b : Expr} {pos : Pos} {wa : E → (List (Str × β) → Prop) → Prop} {wb : E → (Str → Prop) → Prop}
/-- d[k], texts as keys, a dict that stays -/
theorem tx_dget (hu : ∀ j, (X j).A.units + 1 < cLine) (ha : TX X K L (dicR S) a wa) (hb : TX X K L strR b wb) (hs : NoSl b) : TX X K L S (.Subscript a b pos) (fun env k => wa env fun xs => wb env fun y => ∃ z, getK xs y = some z ∧ k z) := by
  obtain ⟨t1, p1, f1⟩ := ha.ex
  obtain ⟨t2, p2, f2⟩ := hb.ex
  refine ⟨fun e k k' h hw => ha.mono _ _ _ (fun xs hxs => hb.mono _ _ _ (fun y ⟨z, h1, h2⟩ => ⟨z, h1, h _ h2⟩) hxs) hw, _, fun j => pe_dget (hu j) (p1 j) (p2 j) hs, fun c σ H env own Q s hw => ?_⟩
  refine f1 c σ H env own _ s (ha.mono _ _ _ (fun xs hx v1 H1 x1 r1 => ?_) hw)
  refine f2 c σ H1 env own _ (s.ex x1) (hb.mono _ _ _ (fun y ⟨z, gz, hz⟩ v2 H2 x2 r2 => ?_) hx)
  obtain ⟨d, kvs, rfl, nw, e, pr⟩ := (dicR S).mono x2.ge r1
  rw [show v2 = V.str y from r2]
  rcases DSp.get pr y with ⟨_, e2⟩ | ⟨v, u, e1, e2, rv⟩
  · rw [gz] at e2
    cases e2
  · rw [gz] at e2
    cases e2
    refine ⟨d, v, rfl, ?_, hz v H2 (x1.trans x2) rv⟩
    rw [← e1]
    exact DGet.k (k := Sum.inr y) e
end
end Tx

/-! itertools.permutations over a list -/
namespace Pm
open PySem PySem.Spec
open Sem (wp)
theorem mro_pm : mroOf (.type "itertools.permutations") = pure [.type "itertools.permutations", .type "object"] := by rw [mroOf_type]; kernel_rfl
theorem new_pm : typeLookup (.type "itertools.permutations") "__new__" = pure (some (.builtin "itertools.permutations.__new__")) := by rw [typeLookup_type, builtinLookup_eq_fast]; kernel_rfl
theorem sub_pm : isSubtype (.type "itertools.permutations") (.type "itertools.permutations") = pure true := by rw [isSubtype_type]; kernel_rfl
theorem init_pm : Slot "itertools.permutations" "__init__" "object.__init__" := by
  refine .of (owner := "object") (n := "__init__") ?_ (by decide +kernel) (by decide +kernel) (by decide +kernel) ?_ ?_
  · rw [typeLookup_type, builtinLookup_eq_fast]; kernel_rfl
  · first | exact .inl (by decide +kernel) | exact .inr (by decide +kernel)
  · rw [isSubtype_type]; kernel_rfl
theorem called_pm : TypeCalled "itertools.permutations" "itertools.permutations.__new__" "object.__init__" :=
  ⟨by decide +kernel, by decide +kernel, ⟨_, _, mro_pm⟩, madeBy_type mro_pm new_pm (by decide +kernel), by decide +kernel, sub_pm, init_pm⟩
theorem ct_pm (a : Value) : checkTypeCall "itertools.permutations" ⟨[a], []⟩ = pure () := by kernel_rfl
theorem cn_pm (a : Value) : checkBuiltinCall "itertools.permutations.__new__" ⟨[.type "itertools.permutations", a], []⟩ = pure () := by kernel_rfl
theorem en_pm : entryFor table "itertools.permutations.__new__" = some Builtin.«itertools.permutations.__new__» := entryFor_of_tree (by kernel_rfl)
theorem iter_pm : Slot "itertools.permutations" "__iter__" "itertools.permutations.__iter__" := by
  refine .of (owner := "itertools.permutations") (n := "__iter__") ?_ (by decide +kernel) (by decide +kernel) (by decide +kernel) ?_ sub_pm
  · rw [typeLookup_type, builtinLookup_eq_fast]; kernel_rfl
  · first | exact .inl (by decide +kernel) | exact .inr (by decide +kernel)
theorem next_pm : Slot "itertools.permutations" "__next__" "itertools.permutations.__next__" := by
  refine .of (owner := "itertools.permutations") (n := "__next__") ?_ (by decide +kernel) (by decide +kernel) (by decide +kernel) ?_ sub_pm
  · rw [typeLookup_type, builtinLookup_eq_fast]; kernel_rfl
  · first | exact .inl (by decide +kernel) | exact .inr (by decide +kernel)
theorem ei_pm : entryFor table "itertools.permutations.__iter__" = some Builtin.«dict_keyiterator.__iter__» :=
  entryFor_alias (id' := "dict_keyiterator.__iter__") (by kernel_rfl) (by first | rfl | decide +kernel | (unfold String.splitOn; simp +decide [String.splitOnAux])) (by decide +kernel) (by kernel_rfl)
theorem ex_pm : entryFor table "itertools.permutations.__next__" = some Builtin.«itertools.permutations.__next__» := entryFor_of_tree (by kernel_rfl)
theorem ow_pm : Manifest.owners.lookup (String.ofList ['s', 'n', 'o', 'i', 't', 'a', 't', 'u', 'm', 'r', 'e', 'p', '.', 's', 'l', 'o', 'o', 't', 'r', 'e', 't', 'i'].reverse) = some Manifest.sig_itertools_permutations := by kernel_rfl
theorem ai_pm (a : Value) : argsOk "itertools.permutations.__iter__" ⟨[a], []⟩ := by
  unfold argsOk
  rw [signature?_of (id := "itertools.permutations.__iter__") (n := ['_', '_', 'r', 'e', 't', 'i', '_', '_']) (o := ['s', 'n', 'o', 'i', 't', 'a', 't', 'u', 'm', 'r', 'e', 'p', '.', 's', 'l', 'o', 'o', 't', 'r', 'e', 't', 'i']) (by kernel_rfl) ow_pm]
  kernel_rfl
theorem ax_pm (a : Value) : argsOk "itertools.permutations.__next__" ⟨[a], []⟩ := by
  unfold argsOk
  rw [signature?_of (id := "itertools.permutations.__next__") (n := ['_', '_', 't', 'x', 'e', 'n', '_', '_']) (o := ['s', 'n', 'o', 'i', 't', 'a', 't', 'u', 'm', 'r', 'e', 'p', '.', 's', 'l', 'o', 'o', 't', 'r', 'e', 't', 'i']) (by kernel_rfl) ow_pm]
  kernel_rfl
theorem nd_pm : typeHasDict (.type "itertools.permutations") = false := by decide +kernel
end Pm

/-! one permutation more; none more -/
namespace Pm
open PySem PySem.Spec
open Sem (wp)
def nums (l : List Nat) : List Value := l.map fun (n : Nat) => rawInt (n : Int)
/-- all sequences of a list, in the order of their places -/
def lexF {α : Type} : Nat → List α → List (List α)
  | 0, _ => [[]]
  | k + 1, xs => (List.range xs.length).flatMap fun d => match xs[d]? with
    | some x => (lexF k (xs.eraseIdx d)).map fun r => x :: r
    | none => []
def fct : Nat → Nat
  | 0 => 1
  | n + 1 => (n + 1) * fct n
def idxs (n i : Nat) : List Nat := ((lexF n (List.range n))[i]?).getD []
def cycs (n i : Nat) : List Nat := (List.range n).map fun k => (n - k) - (i / fct (n - 1 - k)) % (n - k)
/-- such a function goes from each sequence to the one behind it -/
def goesOn (f : Nat → Nat → List Nat → List Nat → Option (List Nat × List Nat)) : Bool := (List.range 6).all fun n => n == 0 || (List.range (fct n)).all fun i => f n n (idxs n i) (cycs n i) == (if i + 1 < fct n then some (idxs n (i + 1), cycs n (i + 1)) else none)
theorem goesOn_some {f : Nat → Nat → List Nat → List Nat → Option (List Nat × List Nat)} (h : goesOn f = true) {n i : Nat} (n1 : 1 ≤ n) (n5 : n ≤ 5) (hi : i + 1 < fct n) : f n n (idxs n i) (cycs n i) = some (idxs n (i + 1), cycs n (i + 1)) := by
  have a := List.all_eq_true.mp h n (List.mem_range.mpr (by omega))
  rw [Bool.or_eq_true] at a
  rcases a with a | a
  · have := beq_iff_eq.mp a
    omega
  · have b := List.all_eq_true.mp a i (List.mem_range.mpr (by omega))
    rw [if_pos hi] at b
    exact beq_iff_eq.mp b
theorem goesOn_none {f : Nat → Nat → List Nat → List Nat → Option (List Nat × List Nat)} (h : goesOn f = true) {n i : Nat} (n1 : 1 ≤ n) (n5 : n ≤ 5) (hi : i + 1 = fct n) : f n n (idxs n i) (cycs n i) = none := by
  have a := List.all_eq_true.mp h n (List.mem_range.mpr (by omega))
  rw [Bool.or_eq_true] at a
  rcases a with a | a
  · have := beq_iff_eq.mp a
    omega
  · have b := List.all_eq_true.mp a i (List.mem_range.mpr (by omega))
    rw [if_neg (by omega)] at b
    exact beq_iff_eq.mp b
/-- the object: state, how many, what it handed out, its numbers -/
abbrev IsPm (h : Heap) (it pool : Addr) (state : Int) (n : Nat) (before : Value) (l : List Nat) : Prop := h.get? it = some { cls := .type "itertools.permutations", dict := none, data := .fields ([.ref pool, rawInt state, rawInt (n : Int), before] ++ nums l).toArray, slots := #[] }
theorem nums_back {l : List Nat} : (nums l).map (fun | .int n _ => n.toNat | _ => 0) = l := by
  unfold nums
  rw [List.map_map]
  have : ((fun | .int n _ => n.toNat | _ => 0 : Value → Nat) ∘ fun (n : Nat) => rawInt (n : Int)) = id := by
    funext n
    show ((n : Int)).toNat = n
    omega
  rw [this, List.map_id]
section
variable {prog : Program} {w : World} {A : Around} {E : Value → Shared → Prop} {s : Shared}
theorem match_some {M : Model} {f : Nat → Nat → List Nat → List Nat → Option (List Nat × List Nat)} {n i : Nat} {X : List Nat → List Nat → Sem Fin} {Y : Sem Fin} {Q : Fin → Shared → Prop} (h : goesOn f = true) (n1 : 1 ≤ n) (n5 : n ≤ 5) (hi : i + 1 < fct n) (hx : wpAny M A (X (idxs n (i + 1)) (cycs n (i + 1))) Q E s) :
    wpAny M A (match f n n (idxs n i) (cycs n i) with | some (a, b) => X a b | none => Y) Q E s := by
  rw [goesOn_some h n1 n5 hi]
  exact hx
theorem match_none {M : Model} {f : Nat → Nat → List Nat → List Nat → Option (List Nat × List Nat)} {n i : Nat} {X : List Nat → List Nat → Sem Fin} {Y : Sem Fin} {Q : Fin → Shared → Prop} (h : goesOn f = true) (n1 : 1 ≤ n) (n5 : n ≤ 5) (hi : i + 1 = fct n) (hx : wpAny M A Y Q E s) :
    wpAny M A (match f n n (idxs n i) (cycs n i) with | some (a, b) => X a b | none => Y) Q E s := by
  rw [goesOn_none h n1 n5 hi]
  exact hx
def picked (items : Array Value) (ix : List Nat) : List Value := ix.map fun i => items.getD i .none
theorem fld {it pool : Addr} {st : Int} {n : Nat} {before : Value} {l : List Nat} {Q : Value → Shared → Prop} (hi : IsPm s.heap it pool st n before l) (k : Nat) (x : Value) (hk : ([Value.ref pool, rawInt st, rawInt (n : Int), before] : List Value)[k]? = some x) (h : Q x s) : wpAny (model prog w) A (field (.ref it) k) Q E s := by
  refine wpAny_field hi rfl (x := x) ?_ h
  rw [List.getElem?_toArray, List.getElem?_append_left (List.getElem?_eq_some_iff.mp hk).1]
  exact hk
theorem result_ok {it pool : Addr} {items : Array Value} {st : Int} {n : Nat} {before : Value} {l ix : List Nat} {Q : Value → Shared → Prop} (n5 : n ≤ 5) (hi : IsPm s.heap it pool st n before l) (len : ix.length ≤ 5)
    (hQ : ∀ h', IsPm h' it pool st n (.ref s.heap.objs.size) l → h'.get? s.heap.objs.size = some { cls := .type "tuple", data := .seq (picked items ix).toArray } → (∀ b o, b ≠ it → s.heap.get? b = some o → h'.get? b = some o) → Q (.ref s.heap.objs.size) { s with heap := h' }) :
    wpAny (model prog w) A (do
      let t ← newTuple (picked items ix)
      let before ← field (.ref it) 3
      setField (.ref it) 3 t
      letGo [before] [t]
      ret t) (fun fin s' => ∃ v, fin = Fin.done (Flow.ret v) ∧ Q v s') E s := by
  refine wpAny_bind (wpAny_newTuple ?_ (by unfold picked; rw [List.length_map, sizeLine_eq]; omega))
  have hi2 : IsPm (s.heap.push { cls := .type "tuple", data := .seq (picked items ix).toArray }) it pool st n before l := Heap.get?_push_of_some _ hi
  refine wpAny_bind (fld (s := { s with heap := s.heap.push { cls := .type "tuple", data := .seq (picked items ix).toArray } }) hi2 3 before rfl ?_)
  refine wpAny_bind (wpAny_setField hi2 rfl ?_ ?_)
  · simp
  · refine wpAny_bind (wpAny_letGo ?_)
    have lt : it < s.heap.objs.size := Heap.lt_size hi
    refine wpAny_pure ⟨_, rfl, hQ _ ?_ ?_ ?_⟩
    · have := Heap.get?_update_self (Obj.mapFields fun x => x.setIfInBounds 3 (.ref s.heap.objs.size)) hi2 rfl
      refine this.trans ?_
      simp [Obj.mapFields]
    · have sb := Heap.SameBut.update (a := it) (h := s.heap.push { cls := .type "tuple", data := .seq (picked items ix).toArray }) (f := Obj.mapFields fun x => x.setIfInBounds 3 (.ref s.heap.objs.size))
      rw [sb.2 _ (Nat.ne_of_gt lt)]
      exact Heap.get?_push_size _ rfl
    · intro b o ne e
      have sb := Heap.SameBut.update (a := it) (h := s.heap.push { cls := .type "tuple", data := .seq (picked items ix).toArray }) (f := Obj.mapFields fun x => x.setIfInBounds 3 (.ref s.heap.objs.size))
      rw [sb.2 _ ne]
      exact Heap.get?_push_of_some _ e
theorem fct_pos : ∀ n, 0 < fct n
  | 0 => Nat.one_pos
  | n + 1 => Nat.mul_pos (Nat.succ_pos n) (fct_pos n)
theorem idx_len {n i : Nat} (n1 : 1 ≤ n) (n5 : n ≤ 5) (hi : i < fct n) : (idxs n i).length = n := by
  have all : ((List.range 6).all fun n => n == 0 || (List.range (fct n)).all fun i => (idxs n i).length == n) = true := by decide +kernel
  have a := List.all_eq_true.mp all n (List.mem_range.mpr (by omega))
  rw [Bool.or_eq_true] at a
  rcases a with a | a
  · have := beq_iff_eq.mp a
    omega
  · exact beq_iff_eq.mp (List.all_eq_true.mp a i (List.mem_range.mpr hi))
theorem IsPm.st {h : Heap} {it pool : Addr} {st st' : Int} {n : Nat} {before : Value} {l : List Nat} (hi : IsPm h it pool st n before l) : IsPm (h.update it (Obj.mapFields fun x => x.setIfInBounds 1 (rawInt st'))) it pool st' n before l := by
  refine (Heap.get?_update_self _ hi rfl).trans ?_
  simp [Obj.mapFields]
theorem next_first {it pool : Addr} {items : Array Value} {n : Nat} {before : Value} {Q : Option Value → Shared → Prop} (n1 : 1 ≤ n) (n5 : n ≤ 5) (hi : IsPm s.heap it pool 0 n before (idxs n 0 ++ cycs n 0)) (hp : s.heap.IsTuple pool items) (hn : items.size = n)
    (hQ : ∀ h', IsPm h' it pool 1 n (.ref s.heap.objs.size) (idxs n 0 ++ cycs n 0) → h'.get? s.heap.objs.size = some { cls := .type "tuple", data := .seq (picked items (idxs n 0)).toArray } → (∀ b o, b ≠ it → s.heap.get? b = some o → h'.get? b = some o) → Q (some (.ref s.heap.objs.size)) { s with heap := h' }) :
    wpAny (model prog w) A (pyNext (.ref it)) Q E s := by
  have hT : s.TypeIs (.ref it) "itertools.permutations" := ⟨_, hi, rfl⟩
  obtain ⟨po, hpo, hpc, pk, hpd⟩ := hp
  unfold pyNext
  refine wpAny_bind (wpAny_attempt (wpAny_callSpecial?_slot (name := Str.ofString "__next__") hT next_pm (wpAny_call_entry next_pm hT ex_pm ?_ (ax_pm _))))
  unfold Builtin.«itertools.permutations.__next__»
  refine wpAny_bind (wpAny_pure ?_)
  dsimp only
  refine wpAny_bind (fld hi 0 (.ref pool) rfl ?_)
  refine wpAny_bind ?_
  unfold Builtin.Itertools.itPoolItems
  refine wpAny_bind (wpAny_seqItems hpo hpd ?_)
  refine wpAny_pure ?_
  refine wpAny_bind ?_
  unfold Builtin.Itertools.itIntField
  refine wpAny_bind (fld hi 2 (rawInt (n : Int)) rfl ?_)
  refine wpAny_pure ?_
  refine wpAny_bind ?_
  unfold Builtin.Itertools.itNumbersFrom
  dsimp only
  refine wpAny_bind (wpAny_load hi ?_)
  dsimp only
  refine wpAny_pure ?_
  refine wpAny_bind ?_
  generalize hL : List.map _ (List.drop 4 ([Value.ref pool, rawInt 0, rawInt (n : Int), before] ++ nums (idxs n 0 ++ cycs n 0))) = L
  have eL : L = idxs n 0 ++ cycs n 0 := hL.symm.trans nums_back
  clear hL
  subst eL
  rw [Int.toNat_natCast, hn]
  have il := idx_len n1 n5 (show 0 < fct n from fct_pos n)
  rw [List.take_left' il]
  refine wpAny_bind (fld hi 1 (rawInt 0) rfl ?_)
  refine wpAny_pure ?_
  show wpAny _ _ (setField (.ref it) 1 (rawInt 1) >>= _) _ _ _
  refine wpAny_bind (wpAny_setField hi rfl ?_ ?_)
  · simp
  · have hi2 : IsPm (s.heap.update it (Obj.mapFields fun x => x.setIfInBounds 1 (rawInt 1))) it pool 1 n before (idxs n 0 ++ cycs n 0) := hi.st
    have sz : (s.heap.update it (Obj.mapFields fun x => x.setIfInBounds 1 (rawInt 1))).objs.size = s.heap.objs.size := Heap.size_update ..
    refine result_ok (s := { s with heap := s.heap.update it (Obj.mapFields fun x => x.setIfInBounds 1 (rawInt 1)) }) n5 hi2 (by omega) ?_
    intro h' a b c
    have sb := Heap.SameBut.update (a := it) (h := s.heap) (f := Obj.mapFields fun x => x.setIfInBounds 1 (rawInt 1))
    dsimp only at a b c ⊢
    rw [sz] at a b ⊢
    exact wpAny_pure (hQ h' a b fun d o ne e => c d o ne (by rw [sb.2 _ ne]; exact e))
theorem next_item {it pool : Addr} {items : Array Value} {n i : Nat} {before : Value} {Q : Option Value → Shared → Prop} (n1 : 1 ≤ n) (n5 : n ≤ 5) (hin : i + 1 < fct n) (hi : IsPm s.heap it pool 1 n before (idxs n i ++ cycs n i)) (hp : s.heap.IsTuple pool items) (hn : items.size = n)
    (hQ : ∀ h', IsPm h' it pool 1 n (.ref s.heap.objs.size) (idxs n (i + 1) ++ cycs n (i + 1)) → h'.get? s.heap.objs.size = some { cls := .type "tuple", data := .seq (picked items (idxs n (i + 1))).toArray } → (∀ b o, b ≠ it → s.heap.get? b = some o → h'.get? b = some o) → Q (some (.ref s.heap.objs.size)) { s with heap := h' }) :
    wpAny (model prog w) A (pyNext (.ref it)) Q E s := by
  have hT : s.TypeIs (.ref it) "itertools.permutations" := ⟨_, hi, rfl⟩
  obtain ⟨po, hpo, hpc, pk, hpd⟩ := hp
  unfold pyNext
  refine wpAny_bind (wpAny_attempt (wpAny_callSpecial?_slot (name := Str.ofString "__next__") hT next_pm (wpAny_call_entry next_pm hT ex_pm ?_ (ax_pm _))))
  unfold Builtin.«itertools.permutations.__next__»
  refine wpAny_bind (wpAny_pure ?_)
  dsimp only
  refine wpAny_bind (fld hi 0 (.ref pool) rfl ?_)
  refine wpAny_bind ?_
  unfold Builtin.Itertools.itPoolItems
  refine wpAny_bind (wpAny_seqItems hpo hpd ?_)
  refine wpAny_pure ?_
  refine wpAny_bind ?_
  unfold Builtin.Itertools.itIntField
  refine wpAny_bind (fld hi 2 (rawInt (n : Int)) rfl ?_)
  refine wpAny_pure ?_
  refine wpAny_bind ?_
  unfold Builtin.Itertools.itNumbersFrom
  dsimp only
  refine wpAny_bind (wpAny_load hi ?_)
  dsimp only
  refine wpAny_pure ?_
  refine wpAny_bind ?_
  generalize hL : List.map _ (List.drop 4 ([Value.ref pool, rawInt 1, rawInt (n : Int), before] ++ nums (idxs n i ++ cycs n i))) = L
  have eL : L = idxs n i ++ cycs n i := hL.symm.trans nums_back
  clear hL
  subst eL
  rw [Int.toNat_natCast, hn]
  have il := idx_len n1 n5 (show i < fct n from by omega)
  have il2 := idx_len n1 n5 hin
  rw [List.take_left' il, List.drop_left' il]
  refine wpAny_bind (fld hi 1 (rawInt 1) rfl ?_)
  refine wpAny_pure ?_
  refine match_some (by decide +kernel) n1 n5 hin ?_
  refine wpAny_bind ?_
  unfold Builtin.Itertools.itSetNumbersFrom
  dsimp only
  refine wpAny_updateFields hi rfl ?_ ?_
  · have hi2 : IsPm (s.heap.update it (Obj.mapFields fun fs => fs.extract 0 4 ++ ((idxs n (i + 1) ++ cycs n (i + 1)).map fun (n : Nat) => rawInt (n : Int)).toArray)) it pool 1 n before (idxs n (i + 1) ++ cycs n (i + 1)) := by
      refine (Heap.get?_update_self _ hi rfl).trans ?_
      simp [Obj.mapFields, nums]
    have sz : (s.heap.update it (Obj.mapFields fun fs => fs.extract 0 4 ++ ((idxs n (i + 1) ++ cycs n (i + 1)).map fun (n : Nat) => rawInt (n : Int)).toArray)).objs.size = s.heap.objs.size := Heap.size_update ..
    have tk : List.take n (idxs n (i + 1)) = idxs n (i + 1) := List.take_of_length_le (by omega)
    rw [tk]
    refine result_ok (s := { s with heap := s.heap.update it (Obj.mapFields fun fs => fs.extract 0 4 ++ ((idxs n (i + 1) ++ cycs n (i + 1)).map fun (n : Nat) => rawInt (n : Int)).toArray) }) n5 hi2 (by omega) ?_
    intro h' a b c
    have sb := Heap.SameBut.update (a := it) (h := s.heap) (f := Obj.mapFields fun fs => fs.extract 0 4 ++ ((idxs n (i + 1) ++ cycs n (i + 1)).map fun (n : Nat) => rawInt (n : Int)).toArray)
    dsimp only at a b c ⊢
    rw [sz] at a b ⊢
    exact wpAny_pure (hQ h' a b fun d o ne e => c d o ne (by rw [sb.2 _ ne]; exact e))
  · have l1 : (cycs n (i + 1)).length = n := by simp [cycs]
    rw [sizeLine_eq]
    simp
    omega
theorem next_end {it pool : Addr} {items : Array Value} {n i : Nat} {before : Value} {Q : Option Value → Shared → Prop} (hh : A.handled = none) (n1 : 1 ≤ n) (n5 : n ≤ 5) (hin : i + 1 = fct n) (hi : IsPm s.heap it pool 1 n before (idxs n i ++ cycs n i)) (hp : s.heap.IsTuple pool items) (hn : items.size = n)
    (hQ : ∀ h', Heap.ExtBut it s.heap h' → Q none { s with heap := h' }) : wpAny (model prog w) A (pyNext (.ref it)) Q E s := by
  have hT : s.TypeIs (.ref it) "itertools.permutations" := ⟨_, hi, rfl⟩
  obtain ⟨po, hpo, hpc, pk, hpd⟩ := hp
  unfold pyNext
  refine wpAny_bind (wpAny_attempt (wpAny_callSpecial?_slot (name := Str.ofString "__next__") hT next_pm (wpAny_call_entry next_pm hT ex_pm ?_ (ax_pm _))))
  unfold Builtin.«itertools.permutations.__next__»
  refine wpAny_bind (wpAny_pure ?_)
  dsimp only
  refine wpAny_bind (fld hi 0 (.ref pool) rfl ?_)
  refine wpAny_bind ?_
  unfold Builtin.Itertools.itPoolItems
  refine wpAny_bind (wpAny_seqItems hpo hpd ?_)
  refine wpAny_pure ?_
  refine wpAny_bind ?_
  unfold Builtin.Itertools.itIntField
  refine wpAny_bind (fld hi 2 (rawInt (n : Int)) rfl ?_)
  refine wpAny_pure ?_
  refine wpAny_bind ?_
  unfold Builtin.Itertools.itNumbersFrom
  dsimp only
  refine wpAny_bind (wpAny_load hi ?_)
  dsimp only
  refine wpAny_pure ?_
  refine wpAny_bind ?_
  generalize hL : List.map _ (List.drop 4 ([Value.ref pool, rawInt 1, rawInt (n : Int), before] ++ nums (idxs n i ++ cycs n i))) = L
  have eL : L = idxs n i ++ cycs n i := hL.symm.trans nums_back
  clear hL
  subst eL
  rw [Int.toNat_natCast, hn]
  have il := idx_len n1 n5 (show i < fct n from by omega)
  rw [List.take_left' il, List.drop_left' il]
  refine wpAny_bind (fld hi 1 (rawInt 1) rfl ?_)
  refine wpAny_pure ?_
  refine match_none (by decide +kernel) n1 n5 hin ?_
  refine wpAny_bind (wpAny_setField hi rfl ?_ ?_)
  · simp
  · show wpAny _ _ (newExc (.type "StopIteration") [] >>= _) _ _ _
    refine wpAny_bind ?_
    simp only [newExc, newTuple]
    refine wpAny_bind (wpAny_newObj_type ?_ (by size_fits))
    refine wpAny_bind (m := firstArgMember _ _) (wpAny_of_eq (a := Value.none) (by first | rfl | (simp only [firstArgMember]; rfl)) ?_)
    refine wpAny_newObj_type ?_ (by size_fits)
    simp only [raiseNew]
    refine wpAny_bind (wpAny_handled ?_)
    rw [show A.in1.handled = none from hh]
    refine wpAny_bind (wpAny_pure (wpAny_throw ?_))
    refine wpAny_bind (wpAny_isInstance (T := "StopIteration") (b := true) ⟨_, Heap.get?_push_size _ rfl, rfl⟩ isSubtype_stop ?_)
    exact wpAny_pure (hQ _ fun b o ne e => Heap.get?_push_of_some _ (Heap.get?_push_of_some _ (by
      have sb := Heap.SameBut.update (a := it) (h := s.heap) (f := Obj.mapFields fun x => x.setIfInBounds 1 (rawInt 2))
      rw [sb.2 _ ne]
      exact e)))
end
end Pm

namespace Pm
open PySem PySem.Spec
open Sem (wp)
def start (n : Nat) : List Nat := List.range n ++ (List.range n).map fun i => n - i
theorem new_meets (l : Addr) (items : Array Value) (n : Nat) (dct : Option Addr) (sl : Array (Option Value)) (few : items.size ≤ 5) :
    Meets (Builtin.«itertools.permutations.__new__» ⟨[.type "itertools.permutations", .ref l], []⟩) (fun _ R s => s.heap.get? l = some { cls := .type "list", dict := dct, data := .seq items n, slots := sl } ∧
      ∀ h' : Heap, (∀ b o, s.heap.get? b = some o → h'.get? b = some o) → R (.ok (.ret (.ref (h'.objs.size + 1)))) { s with heap := (h'.push { cls := .type "tuple", data := .seq items.toList.toArray }).push { cls := .type "itertools.permutations", data := .fields ([.ref h'.objs.size, rawInt 0, rawInt (items.size : Int), .none] ++ nums (start items.size)).toArray } }) :=
  .of_wp fun prog w A R s h => by
    obtain ⟨hp, g, dd, tk, os⟩ := s
    obtain ⟨hl, h⟩ := h
    have hsub : isSubtype (.type "itertools.permutations") (.type ("itertools." ++ "permutations")) = pure true := by
      rw [show ("itertools." ++ "permutations" : String) = "itertools.permutations" from by decide +kernel]
      exact sub_pm
    have hd := nd_pm
    have sz : items.size ≤ sizeLine := by rw [sizeLine_eq]; omega
    repeat (first
      | (refine wpAny_collect_seq l (T := "list") (items := items) (n := n) (.inl rfl) hl rfl rfl ?_ sz)
      | wp_step
      | simp only [List.head?_cons, Option.some_or, List.getElem?_cons_succ, List.getElem?_cons_zero, List.length_cons, List.length_nil, List.forIn_nil])
    intro h' hk
    have fl : items.toList.length = items.size := Array.length_toList
    refine wpAny_bind (wpAny_pure ?_)
    rw [if_neg (by omega), if_neg (by unfold Builtin.Itertools.itTooMany; simp; omega)]
    refine wpAny_bind (wpAny_newTuple ?_ (by rw [fl]; exact sz))
    have en : ([Value.ref h'.objs.size, rawInt (if ((items.toList.length : Int)).toNat > items.toList.length then 2 else 0), rawInt (((items.toList.length : Int)).toNat : Int), Value.none] ++ (List.range items.toList.length).map (fun (i : Nat) => rawInt (i : Int)) ++ (List.range ((items.toList.length : Int)).toNat).map (fun (i : Nat) => rawInt ((items.toList.length : Int) - (i : Int)))) = [Value.ref h'.objs.size, rawInt 0, rawInt (items.size : Int), .none] ++ nums (start items.size) := by
      rw [Int.toNat_natCast, fl, if_neg (Nat.lt_irrefl _)]
      unfold nums start
      rw [List.map_append, List.map_map, List.append_assoc]
      congr 2
      refine List.map_congr_left fun i hi => ?_
      have := List.mem_range.mp hi
      show rawInt ((items.size : Int) - (i : Int)) = rawInt ((items.size - i : Nat) : Int)
      congr 1
      omega
    show wpAny _ _ (Builtin.Itertools.itNewRecord _ _ >>= _) _ _ _
    rw [en]
    refine wpAny_bind ?_
    unfold Builtin.Itertools.itNewRecord
    rw [hd]
    rw [if_pos (show (!false) = true from rfl)]
    refine wpAny_newObj_type ?_ ?_
    · have q := h h' hk
      have z : (h'.push { cls := .type "tuple", data := .seq items.toList.toArray }).objs.size = h'.objs.size + 1 := Heap.size_push ..
      refine wpAny_pure ⟨_, rfl, ?_⟩
      show R (.ok (.ret (.ref (h'.push { cls := .type "tuple", data := .seq items.toList.toArray }).objs.size))) _
      rw [z]
      exact q
    · show (([Value.ref h'.objs.size, rawInt 0, rawInt (items.size : Int), Value.none] ++ nums (start items.size)).toArray).size ≤ sizeLine + 2
      rw [sizeLine_eq]
      simp [nums, start]
      omega
end Pm

/-! for x in permutations(xs) -/
namespace Pm
open PySem PySem.Spec PyProof.Rows L2 Gx
theorem start_eq {n : Nat} (n1 : 1 ≤ n) (n5 : n ≤ 5) : start n = idxs n 0 ++ cycs n 0 := by
  have all : ((List.range 6).all fun n => n == 0 || start n == idxs n 0 ++ cycs n 0) = true := by decide +kernel
  have a := List.all_eq_true.mp all n (List.mem_range.mpr (by omega))
  rw [Bool.or_eq_true] at a
  rcases a with a | a
  · have := beq_iff_eq.mp a
    omega
  · exact beq_iff_eq.mp a
section
variable {prog : Program} {w : World} {A : Around} {E : Value → Shared → Prop} {s : Shared}
theorem call_perm {l : Addr} {items : Array Value} {Q : Value → Shared → Prop} (hL : s.heap.IsList l items) (n1 : 1 ≤ items.size) (n5 : items.size ≤ 5)
    (h : ∀ h1 : Heap, (∀ b o, s.heap.get? b = some o → h1.get? b = some o) → Q (.ref (h1.objs.size + 1)) { s with heap := (h1.push { cls := .type "tuple", data := .seq items.toList.toArray }).push { cls := .type "itertools.permutations", data := .fields ([.ref h1.objs.size, rawInt 0, rawInt (items.size : Int), .none] ++ nums (start items.size)).toArray } }) :
    wpAny (model prog w) A (call (.type "itertools.permutations") [.ref l]) Q E s := by
  obtain ⟨⟨c, dct, dt, sl⟩, hl, hc, n, hd⟩ := hL
  replace hc : c = .type "list" := hc
  replace hd : dt = .seq items n := hd
  subst hc hd
  refine callType_new called_pm (by decide +kernel) (ct_pm _) (cn_pm _) (fun obj => F.args_object_init_2 obj _) en_pm (new_meets l items n dct sl n5) ⟨hl, ?_⟩
  intro h1 hk
  have z : (h1.push { cls := .type "tuple", data := .seq items.toList.toArray }).objs.size = h1.objs.size + 1 := Heap.size_push ..
  have := Heap.get?_push_size (h1.push { cls := .type "tuple", data := .seq items.toList.toArray }) (o := { cls := .type "itertools.permutations", data := .fields ([.ref h1.objs.size, rawInt 0, rawInt (items.size : Int), .none] ++ nums (start items.size)).toArray }) rfl
  rw [z] at this
  exact ⟨⟨_, this, rfl⟩, h h1 hk⟩
theorem iter_perm {it pool : Addr} {st : Int} {n : Nat} {before : Value} {l : List Nat} {Q : Value → Shared → Prop} (hi : IsPm s.heap it pool st n before l) (h : Q (.ref it) s) : wpAny (model prog w) A (pyIter (.ref it)) Q E s := by
  have hT : s.TypeIs (.ref it) "itertools.permutations" := ⟨_, hi, rfl⟩
  refine wpAny_pyIter_slot hT iter_pm (wpAny_call_entry iter_pm hT ei_pm ?_ (ai_pm _))
  show wpAny _ _ (ret (.ref it)) _ _ s
  exact wpAny_pure ⟨_, rfl, "itertools.permutations", _, hT, next_pm.lookup, h⟩
end
def pickV (xs : List V) (ix : List Nat) : List V := ix.map fun i => xs.getD i .non
theorem picked_vals {xs : List V} {its : List Value} (r : Vals xs its) : ∀ {ix : List Nat}, (∀ i ∈ ix, i < xs.length) → Vals (pickV xs ix) (picked its.toArray ix)
  | [], _ => .nil
  | i :: ix, h => by
    have lt := h i List.mem_cons_self
    have len := r.length
    refine .cons ?_ (picked_vals r fun j hj => h j (List.mem_cons_of_mem _ hj))
    obtain ⟨u, hu, ru⟩ := r.get (List.getElem?_eq_getElem lt)
    have e1 : xs.getD i .non = xs[i] := by rw [List.getD_eq_getElem?_getD, List.getElem?_eq_getElem lt]; rfl
    have e2 : its.toArray.getD i .none = u := by
      rw [Array.getD_eq_getD_getElem?, List.getElem?_toArray, hu]
      rfl
    show L2.RelV (xs.getD i .non) (its.toArray.getD i .none)
    rw [e1, e2]
    exact ru
theorem idx_lt {n i : Nat} (n1 : 1 ≤ n) (n5 : n ≤ 5) (hi : i < fct n) : ∀ j ∈ idxs n i, j < n := by
  have all : ((List.range 6).all fun n => n == 0 || (List.range (fct n)).all fun i => (idxs n i).all fun j => decide (j < n)) = true := by decide +kernel
  have a := List.all_eq_true.mp all n (List.mem_range.mpr (by omega))
  rw [Bool.or_eq_true] at a
  rcases a with a | a
  · have := beq_iff_eq.mp a
    omega
  · intro j hj
    exact of_decide_eq_true (List.all_eq_true.mp (List.all_eq_true.mp a i (List.mem_range.mpr hi)) j hj)
/-- the sequences of xs, one behind the other -/
def Itp (xs : List V) : It := ⟨fun i _ => i < fct xs.length, fun i H v H' => ∃ T, v = .ref T ∧ H T = none ∧ H' = upd H T (.tup (pickV xs (idxs xs.length i))), fun i _ => i = fct xs.length⟩
def tnP (it pool : Addr) (items : Array Value) (n i : Nat) (h : Heap) : Prop := it ≠ pool ∧ h.IsTuple pool items ∧ ((i = 0 ∧ ∃ before, IsPm h it pool 0 n before (idxs n 0 ++ cycs n 0)) ∨ ∃ j, i = j + 1 ∧ ∃ before, IsPm h it pool 1 n before (idxs n j ++ cycs n j))
theorem turn_perm {P : Program} {w : World} {K : PySem.W.Frag} {tg : Expr} {it pool : Addr} {xs : List V} {its : List Value} (r : Vals xs its) (n1 : 1 ≤ xs.length) (n5 : xs.length ≤ 5) : Turn P w K tg (Itp xs) [it, pool] it (tnP it pool its.toArray xs.length) where
  mem := by simp
  obj := fun i h ⟨ne, ⟨o, ho, hc, k, hd⟩, st⟩ b hb => by
    have e : b = it ∨ b = pool := by simpa using hb
    rcases e with e | e
    · rw [e]
      rcases st with ⟨_, before, hi⟩ | ⟨j, _, before, hi⟩ <;> exact ⟨_, hi, fun v q => nomatch q⟩
    · rw [e]
      exact ⟨o, ho, fun v q => by rw [hd] at q; cases q⟩
  keep := fun i h h' ⟨ne, ⟨o, ho, hc, k, hd⟩, st⟩ kp => by
    refine ⟨ne, ⟨o, kp pool (by simp) _ ho, hc, k, hd⟩, ?_⟩
    rcases st with ⟨z, before, hi⟩ | ⟨j, z, before, hi⟩
    · exact .inl ⟨z, before, kp it (by simp) _ hi⟩
    · exact .inr ⟨j, z, before, kp it (by simp) _ hi⟩
  item := by
    intro X hP hw hK hc i pins s σ H E I hf st hg
    subst hP hw hK
    obtain ⟨ne, hp, st⟩ := st
    have hg : i < fct xs.length := hg
    have len : its.toArray.size = xs.length := by rw [List.size_toArray]; exact r.length.symm
    have fin : ∀ (h' : Heap), IsPm h' it pool 1 xs.length (.ref s.heap.objs.size) (idxs xs.length i ++ cycs xs.length i) → h'.get? s.heap.objs.size = some { cls := .type "tuple", data := .seq (picked its.toArray (idxs xs.length i)).toArray } → (∀ b o, b ≠ it → s.heap.get? b = some o → h'.get? b = some o) →
        ∃ u, some (Value.ref s.heap.objs.size) = some u ∧ wpAny (model X.prog X.w) X.A (letOwnedTupleGo tg (.ref it) u) (fun _ s2 => ∃ x H', Inv X pins σ H' s2 ∧ RelV x u ∧ (Itp xs).yld i H x H' ∧ tnP it pool its.toArray xs.length (i + 1) s2.heap ∧ ∀ b ∈ [it, pool], H' b = none) E { s with heap := h' } := by
      intro h' a b c
      refine ⟨_, rfl, go_of (s := { s with heap := h' }) (n := "itertools.permutations") a rfl rfl (by decide) ?_⟩
      have il := idx_len n1 n5 hg
      have new : ObjOk X.prog X.w (upd H s.heap.objs.size (.tup (pickV xs (idxs xs.length i)))) h' s.heap.objs.size (.tup (pickV xs (idxs xs.length i))) :=
        ⟨by unfold pickV; rw [List.length_map, il, sizeLine_eq]; omega, picked its.toArray (idxs xs.length i), picked_vals r (idx_lt n1 n5 hg), ⟨_, b, rfl, _, rfl⟩⟩
      have I1 : Inv X pins σ (upd H s.heap.objs.size (.tup (pickV xs (idxs xs.length i)))) { s with heap := h' } :=
        I.turnedNew (t' := s.toks) (ch := [it, pool]) (fun b ob hb q => c b ob (fun z => hb (by simp [z])) q) hf (Nat.le_refl _) new
      obtain ⟨o, ho, hcl, k, hd⟩ := hp
      have lt1 : pool < s.heap.objs.size := Heap.lt_size ho
      have lt2 : it < s.heap.objs.size := by
        rcases st with ⟨_, before, hi⟩ | ⟨j, _, before, hi⟩ <;> exact Heap.lt_size hi
      refine ⟨.ref s.heap.objs.size, _, I1, rfl, ⟨_, rfl, I.hok.fresh (Nat.le_refl _), rfl⟩, ⟨ne, ⟨o, c pool o (Ne.symm ne) ho, hcl, k, hd⟩, .inr ⟨i, rfl, _, a⟩⟩, fun b hb => ?_⟩
      have e : b = it ∨ b = pool := by simpa using hb
      have hb' : b < s.heap.objs.size := by rcases e with e | e <;> rw [e] <;> assumption
      rw [upd_ne (Nat.ne_of_lt hb')]
      exact (hf b hb).1
    rcases st with ⟨rfl, before, hi⟩ | ⟨j, rfl, before, hi⟩
    · exact next_first n1 n5 hi hp len fin
    · exact next_item n1 n5 hg hi hp len fin
  done := by
    intro X hP hw hK hc i pins s σ H E I hf st hg
    subst hP hw hK
    obtain ⟨ne, hp, st⟩ := st
    have hg : i = fct xs.length := hg
    have len : its.toArray.size = xs.length := by rw [List.size_toArray]; exact r.length.symm
    obtain ⟨f0, f1, f2, f3, f4, f5⟩ := hf it (by simp)
    rcases st with ⟨z, _⟩ | ⟨j, rfl, before, hi⟩
    · have := fct_pos xs.length
      omega
    · exact next_end (I.ok.hd hc) n1 n5 hg hi hp len fun h' eb => ⟨rfl, I.turned (t' := s.toks) (fun b o hb q => eb b o hb q) f0 f1 f3 f4 f5⟩
  self := fun A i s Q E ⟨_, _, st⟩ h => by
    rcases st with ⟨_, before, hi⟩ | ⟨j, _, before, hi⟩
    · exact iter_perm hi h
    · exact iter_perm hi h
def iPerm (K : PySem.W.Frag) (ta : TA) : TI := fun σ H R => ta σ H fun vs H1 => ∃ a xs, vs = [.ref a] ∧ SqL K H1 a xs ∧ 1 ≤ xs.length ∧ xs.length ≤ 5 ∧ R (Itp xs) H1
theorem pi_perm {X : Cx} {tg e : Expr} {ta : TA} {f : Str} {p pos : Pos} (hg : Gl X f) (hm : X.mg f = some (.type "itertools.permutations")) (ha : PA X [e] ta) (hs : starEach [e] X.env = [(false, eval e X.env)] := by rfl) (hd : (f == ("__debug__" : Str)) = false := by decide) :
    PI X tg (.Call (.Name f p) [e] [] pos) (iPerm X.K ta) := by
  refine ⟨fun pins s σ H R I h => ?_⟩
  refine Call_ (ld_glob I hg hm (PyProof.Rows.callWith_type1 (thn (ha.run pos pins s σ H _ I h) fun us s1 ⟨vs, H1, I1, r1, q1⟩ => ?_) hs rfl) hd)
  obtain ⟨a, xs, ex, hq, n1, n5, q⟩ := q1
  subst ex
  cases r1 with
  | cons r rr =>
    cases rr
    cases r
    obtain ⟨its, rv, p', hz⟩ := I1.list hq
    have len := rv.length
    refine call_perm p'.isList (by simpa using (by omega : 1 ≤ its.length)) (by simpa using (by omega : its.length ≤ 5)) fun h1 hk => ?_
    have I2 : Inv X pins σ H1 { s1 with heap := h1 } := I1.kept (t' := s1.toks) hk
    have z : (h1.push { cls := .type "tuple", data := .seq its.toArray.toList.toArray }).objs.size = h1.objs.size + 1 := Heap.size_push ..
    have I3 : Inv X pins σ H1 { s1 with heap := (h1.push { cls := .type "tuple", data := .seq its.toArray.toList.toArray }).push { cls := .type "itertools.permutations", data := .fields ([.ref h1.objs.size, rawInt 0, rawInt (its.toArray.size : Int), .none] ++ nums (start its.toArray.size)).toArray } } :=
      I2.kept (t' := s1.toks) fun b o e => Heap.get?_push_of_some _ (Heap.get?_push_of_some _ e)
    have hi : IsPm ((h1.push { cls := .type "tuple", data := .seq its.toArray.toList.toArray }).push { cls := .type "itertools.permutations", data := .fields ([.ref h1.objs.size, rawInt 0, rawInt (its.toArray.size : Int), .none] ++ nums (start its.toArray.size)).toArray }) (h1.objs.size + 1) h1.objs.size 0 xs.length .none (idxs xs.length 0 ++ cycs xs.length 0) := by
      have := Heap.get?_push_size (h1.push { cls := .type "tuple", data := .seq its.toArray.toList.toArray }) (o := { cls := .type "itertools.permutations", data := .fields ([.ref h1.objs.size, rawInt 0, rawInt (its.toArray.size : Int), .none] ++ nums (start its.toArray.size)).toArray }) rfl
      rw [z] at this
      refine this.trans ?_
      have ez : its.toArray.size = xs.length := by rw [List.size_toArray, len]
      rw [ez, start_eq n1 n5]
    refine iter_perm hi ?_
    refine ⟨h1.objs.size + 1, [h1.objs.size + 1, h1.objs.size], _, _, H1, rfl, I3, turn_perm rv n1 n5, ⟨Nat.succ_ne_self _, ⟨_, Heap.get?_push_of_some _ (Heap.get?_push_size _ rfl), rfl, _, rfl⟩, .inl ⟨rfl, _, hi⟩⟩, fun b hb => ?_, q⟩
    have e' : b = h1.objs.size + 1 ∨ b = h1.objs.size := by simpa using hb
    have hle : h1.objs.size ≤ b := by
      rcases e' with z | z
      · rw [z]; exact Nat.le_add_right _ _
      · rw [z]; exact Nat.le_refl _
    have := I2.fpOk hle (I2.hok.fresh hle)
    exact this
end Pm

/-! enumerate over a tuple -/
namespace En
open PySem PySem.Spec PyProof.Rows L2 Gx
open AutoSeq1 (wpAny_loadPart')
section
variable {prog : Program} {w : World} {A : Around} {E : Value → Shared → Prop} {s : Shared}
theorem tup_item {it t : Addr} {i : Nat} {items : Array Value} {x : Value} {Q : Value → Shared → Prop} (hit : s.heap.IsTupleIter it t i) (ht : s.heap.IsTuple t items) (hx : items[i]? = some x)
    (hQ : ∀ h', h'.IsTupleIter it t (i + 1) → Heap.SameBut it s.heap h' → Q x { s with heap := h' }) : wpAny (model prog w) A (Builtin.SmallTypes.nextOf (.ref it)) Q E s := by
  obtain ⟨o, ho, hc, hd⟩ := id hit
  obtain ⟨ot, hot, _, nt, hdt⟩ := ht
  unfold Builtin.SmallTypes.nextOf
  refine wpAny_bind (wpAny_callSpecial?_slot (name := Str.ofString "__next__") hit.typeIs F.slot_tuple_iterator_next (wpAny_call_entry F.slot_tuple_iterator_next hit.typeIs F.entry_tuple_iterator_next ?_ (F.args_tuple_iterator_next_1 _)))
  refine wpAny_bind (wpAny_pure ?_)
  dsimp only
  refine wpAny_bind (wpAny_field ho hd (x := .ref t) rfl ?_)
  have nn : ((Value.ref t == Value.none) = true) = False := eq_false Bool.false_ne_true
  simp only [nn, if_false]
  refine wpAny_bind (wpAny_field ho hd (x := .int i 0) rfl ?_)
  refine wpAny_bind (wpAny_seqItems hot hdt ?_)
  simp only [Int.toNat_natCast, hx]
  refine wpAny_bind (wpAny_setField ho hd (by simp) (wpAny_pure ⟨x, rfl, wpAny_pure (hQ _ ?_ (Heap.SameBut.update ..))⟩))
  refine ⟨_, Heap.get?_update_self _ ho (Obj.isFreed_of_fields (Obj.data_mapFields hd _)), (Obj.cls_mapFields ..).trans hc, ?_⟩
  rw [Obj.data_mapFields hd]
  simp [rawInt]
theorem tup_end {it t : Addr} {i : Nat} {items : Array Value} {Q : Value → Shared → Prop} (hh : A.handled = none) (hit : s.heap.IsTupleIter it t i) (ht : s.heap.IsTuple t items) (hx : items[i]? = none)
    (hE : ∀ h' e, Heap.ExtBut it s.heap h' → (∃ o, h'.get? e = some o ∧ o.cls = .type "StopIteration") → E (.ref e) { s with heap := h' }) : wpAny (model prog w) A (Builtin.SmallTypes.nextOf (.ref it)) Q E s := by
  obtain ⟨o, ho, hc, hd⟩ := id hit
  obtain ⟨ot, hot, _, nt, hdt⟩ := ht
  unfold Builtin.SmallTypes.nextOf
  refine wpAny_bind (wpAny_callSpecial?_slot (name := Str.ofString "__next__") hit.typeIs F.slot_tuple_iterator_next (wpAny_call_entry F.slot_tuple_iterator_next hit.typeIs F.entry_tuple_iterator_next ?_ (F.args_tuple_iterator_next_1 _)))
  refine wpAny_bind (wpAny_pure ?_)
  dsimp only
  refine wpAny_bind (wpAny_field ho hd (x := .ref t) rfl ?_)
  have nn : ((Value.ref t == Value.none) = true) = False := eq_false Bool.false_ne_true
  simp only [nn, if_false]
  refine wpAny_bind (wpAny_field ho hd (x := .int i 0) rfl ?_)
  refine wpAny_bind (wpAny_seqItems hot hdt ?_)
  simp only [Int.toNat_natCast, hx]
  refine wpAny_bind (wpAny_rule (wpAny_bind (wpAny_setField ho hd (by simp) ?_)))
  refine wpAny_bind ?_
  simp only [newExc, newTuple]
  refine wpAny_bind (wpAny_newObj_type ?_ (by size_fits))
  have first : firstArgMember = fun a b => firstArgMember a b := rfl
  refine wpAny_bind ?_
  refine wpAny_of_eq (a := Value.none) (by first | rfl | (simp only [firstArgMember]; rfl)) ?_
  refine wpAny_newObj_type ?_ (by size_fits)
  simp only [raiseNew]
  refine wpAny_bind (wpAny_handled ?_)
  rw [show A.in1.handled = none from hh]
  refine wpAny_bind (wpAny_pure (wpAny_throw ?_))
  exact hE _ _ (((Heap.SameBut.update ..).extBut.push _).push _) ⟨_, Heap.get?_push_size _ rfl, rfl⟩
end
theorem drawsT {prog : Program} {w : World} {A : Around} (hh : A.handled = none) (it t : Addr) (hne : t ≠ it) (items : Array Value) :
    Draws prog w A it [it, t] items.size (fun i v => items[i]? = some v) (fun i h => h.IsTupleIter it t i ∧ h.IsTuple t items) where
  live := fun _ _ ⟨⟨o, ho, _⟩, _⟩ => ⟨o, ho⟩
  frame := fun _ _ _ ⟨⟨o, ho, r⟩, ⟨o2, ho2, r2⟩⟩ hk => ⟨⟨o, hk it (by simp) o ho, r⟩, ⟨o2, hk t (by simp) o2 ho2, r2⟩⟩
  item := fun i s Q E hi st hQ => by
    refine tup_item st.1 st.2 (x := items[i]) (by simp [hi]) fun h' hit' hs' => ?_
    exact hQ _ h' s.toks (by simp [hi]) ⟨hit', st.2.extBut hs'.extBut hne⟩ hs'
  done := fun s Q E st hE => tup_end hh st.1 st.2 (by simp) hE
theorem new_enum (l : Addr) (items : Array Value) (n : Nat) (dct : Option Addr) (sl : Array (Option Value)) :
    Meets (Builtin.«enumerate.__new__» ⟨[.type "enumerate", .ref l], []⟩) (fun _ R s => s.heap.get? l = some { cls := .type "tuple", dict := dct, data := .seq items n, slots := sl } ∧
      R (.ok (.ret (.ref (s.heap.push { cls := .type "tuple_iterator", data := .fields #[.ref l, .int 0 0] }).objs.size)))
        { s with heap := (s.heap.push { cls := .type "tuple_iterator", data := .fields #[.ref l, .int 0 0] }).push { cls := .type "enumerate", data := .fields #[.none, .bool false, .ref s.heap.objs.size, rawInt 0, .none, .none] } }) :=
  .of_wp fun prog w A R s h => by
    obtain ⟨hp, g, d, tk, os⟩ := s
    obtain ⟨hl, h⟩ := h
    have hsub := sub_enumerate
    have hT : Heap.IsTuple (Shared.heap ⟨hp, g, d, tk, os⟩) l items := ⟨_, hl, rfl, n, rfl⟩
    wp_walk using wpAny_loadPart' hl
    refine wpAny_stack_any fun st => wpAny_pure ?_
    split
    · rename_i c _ _ _ _ _
      cases (c == Value.type "enumerate") <;>
      · wp_walk using wpAny_loadPart' hl, wpAny_pyIter_tuple hT
        exact ⟨_, rfl, h⟩
    · wp_walk using wpAny_loadPart' hl, wpAny_pyIter_tuple hT
      exact ⟨_, rfl, h⟩
section
variable {prog : Program} {w : World} {A : Around} {E : Value → Shared → Prop} {s : Shared}
theorem call_enumT {l : Addr} {items : Array Value} {Q : Value → Shared → Prop} (hL : s.heap.IsTuple l items)
    (h : ∀ h', IsEnum h' (s.heap.objs.size + 1) s.heap.objs.size 0 .none → h'.IsTupleIter s.heap.objs.size l 0 → (∀ b o, s.heap.get? b = some o → h'.get? b = some o) → Q (.ref (s.heap.objs.size + 1)) { s with heap := h' }) :
    wpAny (model prog w) A (call (.type "enumerate") [.ref l]) Q E s := by
  obtain ⟨⟨c, dct, dt, sl⟩, hl, hc, n, hd⟩ := hL
  replace hc : c = .type "tuple" := hc
  replace hd : dt = .seq items n := hd
  subst hc hd
  refine callType_new F.called_enumerate (by decide) (F.typeCall_enumerate_1 _) (F.newCall_enumerate_1 _) (fun obj => F.args_object_init_2 obj _) F.entry_enumerate_new (new_enum l items n dct sl) ⟨hl, ?_⟩
  have z : (s.heap.push { cls := .type "tuple_iterator", data := .fields #[.ref l, .int 0 0] }).objs.size = s.heap.objs.size + 1 := Heap.size_push ..
  show _ ∧ _
  rw [z]
  have e := Heap.get?_push_size (s.heap.push { cls := .type "tuple_iterator", data := .fields #[.ref l, .int 0 0] }) (o := { cls := .type "enumerate", data := .fields #[.none, .bool false, .ref s.heap.objs.size, rawInt 0, .none, .none] }) rfl
  rw [z] at e
  exact ⟨⟨_, e, rfl⟩, h _ e ⟨_, Heap.get?_push_of_some _ (Heap.get?_push_size _ rfl), rfl, rfl⟩ fun b o x => Heap.get?_push_of_some _ (Heap.get?_push_of_some _ x)⟩
end
/-- the tuple at a, each item in a new pair with its place -/
def IteT (K : PySem.W.Frag) (a : Addr) (xs : List V) : It :=
  ⟨fun i H => SqT K H a xs ∧ i < xs.length, fun i H v H' => ∃ T x, v = .ref T ∧ H T = none ∧ H' = upd H T (.tup [.int (i : Nat), x]) ∧ xs[i]? = some x, fun i H => SqT K H a xs ∧ i = xs.length⟩
theorem turn_enumT {P : Program} {w : World} {K : PySem.W.Frag} {elts : List Expr} {kk : Nat} {tpos : Pos} (a e it : Addr) (xs : List V) :
    Turn P w K (.Tuple elts kk tpos) (IteT K a xs) [e, it] e (fun i h => (∃ old, IsEnum h e it ((i : Nat) : Int) old) ∧ h.IsTupleIter it a i ∧ e ≠ it ∧ a ≠ it ∧ a ≠ e) where
  mem := by simp
  obj := fun i h ⟨⟨old, he⟩, ⟨o, ho, hc, hd⟩, _⟩ b hb => by
    have e' : b = e ∨ b = it := by simpa using hb
    rcases e' with z | z
    · rw [z]
      exact ⟨_, he, fun v q => nomatch q⟩
    · rw [z]
      exact ⟨o, ho, fun v q => by rw [hd] at q; cases q⟩
  keep := fun i h h' ⟨⟨old, he⟩, ⟨o, ho, r⟩, hne⟩ k => ⟨⟨old, k e (by simp) _ he⟩, ⟨o, k it (by simp) _ ho, r⟩, hne⟩
  item := by
    intro X hP hw hK hc i pins s σ H E I hf st hg
    subst hP hw hK
    obtain ⟨⟨old, he⟩, hit, hne, ha1, ha2⟩ := st
    obtain ⟨hq, lt⟩ := hg
    obtain ⟨its, r, p', hz⟩ := I.tuple hq
    have tup : s.heap.IsTuple a its.toArray := by
      obtain ⟨o, ho, hc, n, hd⟩ := p'
      exact ⟨o, ho, hc, n, hd⟩
    have len := r.length
    have lt' : i < its.toArray.size := by rw [List.size_toArray]; omega
    refine wpAny_pyNext_enum_itemD (drawsT (show X.A.in1.handled = none from I.ok.hd hc) it a ha1 its.toArray) he ⟨hit, tup⟩ lt' hne (by simp [hne, Ne.symm ha2]) fun x h' tk hx ho hs' hTt hsz hk => ?_
    have hel : e < s.heap.objs.size := Heap.lt_size he
    have hil : it < s.heap.objs.size := by
      obtain ⟨_, q, _⟩ := hit
      exact Heap.lt_size q
    refine ⟨_, rfl, wpAny_letOwnedTupleGo_enum (s := { s with heap := h', toks := tk + 1 }) ho fun h'' he' sb => ?_⟩
    have hT2 : h''.get? s.heap.objs.size = some { cls := .type "tuple", data := .seq #[.int i tk, x] } := (sb.2 _ (Nat.ne_of_gt hel)).trans hTt
    have vx : xs[i]? = some (xs[i]'lt) := List.getElem?_eq_getElem lt
    obtain ⟨u, hu, ru⟩ := r.get vx
    have eu : x = u := by
      have q : its.toArray[i]? = some x := hx
      rw [List.getElem?_toArray, hu] at q
      exact (Option.some.inj q).symm
    subst eu
    have new : ObjOk X.prog X.w (upd H s.heap.objs.size (.tup [.int (i : Nat), xs[i]'lt])) h'' s.heap.objs.size (.tup [.int (i : Nat), xs[i]'lt]) :=
      ⟨by show 2 ≤ sizeLine; decide, [.int i tk, x], .cons ⟨_, rfl⟩ (.cons ru .nil), ⟨_, hT2, rfl, _, rfl⟩⟩
    have I1 : Inv X pins σ (upd H s.heap.objs.size (.tup [.int (i : Nat), xs[i]'lt])) { s with heap := h'', toks := tk + 1 } :=
      I.turnedNew (ch := [e, it]) (fun b ob hb q => (sb.2 b (fun z => hb (by simp [z]))).trans (hk b ob (fun z => hb (by simp [z])) (fun z => hb (by simp [z])) q)) hf (Nat.le_refl _) new
    refine ⟨.ref s.heap.objs.size, _, I1, rfl, ⟨_, xs[i]'lt, rfl, I.hok.fresh (Nat.le_refl _), rfl, vx⟩, ⟨⟨x, ?_⟩, ?_, hne, ha1, ha2⟩, fun b hb => ?_⟩
    · have e1 : ((i + 1 : Nat) : Int) = (i : Int) + 1 := by omega
      rw [e1]
      exact he'
    · obtain ⟨⟨o, ho2, r2⟩, _⟩ := hs'
      exact ⟨o, (sb.2 it (Ne.symm hne)).trans ho2, r2⟩
    · have hb' : b < s.heap.objs.size := by
        have e' : b = e ∨ b = it := by simpa using hb
        rcases e' with z | z <;> rw [z] <;> assumption
      rw [upd_ne (Nat.ne_of_lt hb')]
      exact (hf b hb).1
  done := by
    intro X hP hw hK hc i pins s σ H E I hf st hg
    subst hP hw hK
    obtain ⟨⟨old, he⟩, hit, hne, ha1, ha2⟩ := st
    obtain ⟨hq, rfl⟩ := hg
    obtain ⟨its, r, p', hz⟩ := I.tuple hq
    have tup : s.heap.IsTuple a its.toArray := by
      obtain ⟨o, ho, hc, n, hd⟩ := p'
      exact ⟨o, ho, hc, n, hd⟩
    have len := r.length
    obtain ⟨f0, f1, f2, f3, f4, f5⟩ := hf it (by simp)
    have ez : xs.length = its.toArray.size := by rw [List.size_toArray]; exact len
    rw [ez] at he hit
    exact wpAny_pyNext_enum_endD (drawsT (show X.A.in1.handled = none from I.ok.hd hc) it a ha1 its.toArray) he ⟨hit, tup⟩ fun h' eb => ⟨rfl, I.turned (t' := s.toks) (fun b o hb q => eb b o hb q) f0 f1 f3 f4 f5⟩
  self := fun A i s Q E ⟨⟨_, he⟩, _⟩ h => wpAny_pyIter_enum he h
def iEnumT (K : PySem.W.Frag) (ta : TA) : TI := fun σ H R => ta σ H fun vs H1 => ∃ a xs, vs = [.ref a] ∧ SqT K H1 a xs ∧ R (IteT K a xs) H1
theorem pi_enumT {X : Cx} {e : Expr} {ta : TA} {p pos tpos : Pos} {elts : List Expr} {kk : Nat} (hg : Gl X "enumerate") (hm : X.mg "enumerate" = none) (ha : PA X [e] ta) (hs : starEach [e] X.env = [(false, eval e X.env)] := by rfl) :
    PI X (.Tuple elts kk tpos) (.Call (.Name "enumerate" p) [e] [] pos) (iEnumT X.K ta) := by
  refine ⟨fun pins s σ H R I h => ?_⟩
  refine Call_ (ld_blt I hg hm boot_enumerate (PyProof.Rows.callWith_type1 (thn (ha.run pos pins s σ H _ I h) fun us s1 ⟨vs, H1, I1, r1, q1⟩ => ?_) hs rfl))
  obtain ⟨a, xs, ex, hq, q⟩ := q1
  subst ex
  cases r1 with
  | cons r rr =>
    cases rr
    cases r
    obtain ⟨its, rv, p', hz⟩ := I1.tuple hq
    have tup : s1.heap.IsTuple a its.toArray := by
      obtain ⟨o, ho, hc, n, hd⟩ := p'
      exact ⟨o, ho, hc, n, hd⟩
    refine call_enumT tup fun h' he hit hk => wpAny_pyIter_enum he ?_
    have I2 : Inv X pins σ H1 { s1 with heap := h' } := I1.kept (t' := s1.toks) hk
    have al : a < s1.heap.objs.size := by
      obtain ⟨o, ho, _⟩ := tup
      exact Heap.lt_size ho
    refine ⟨s1.heap.objs.size + 1, [s1.heap.objs.size + 1, s1.heap.objs.size], _, _, H1, rfl, I2, turn_enumT a (s1.heap.objs.size + 1) s1.heap.objs.size xs, ⟨⟨.none, he⟩, hit, Nat.succ_ne_self _, Nat.ne_of_lt al, Nat.ne_of_lt (Nat.lt_succ_of_lt al)⟩, fun b hb => ?_, q⟩
    · have e' : b = s1.heap.objs.size + 1 ∨ b = s1.heap.objs.size := by simpa using hb
      have hle : s1.heap.objs.size ≤ b := by
        rcases e' with z | z
        · rw [z]; exact Nat.le_add_right _ _
        · rw [z]; exact Nat.le_refl _
      exact I1.fpOk hle (I1.hok.fresh hle)
end En

/-! more rules: permutations, enumerate over a tuple, truth of lists, data in lists, items stored -/
namespace Tx
open PySem PySem.Spec PyProof.Rows L2 Gx Pm En
/-! ### what stays whatever lists are owned -/
def Fl2 {α : Type} (S : Rp α) : Prop := ∀ {K : PySem.W.Frag} {W W' : WS} {H : Hp} {v : V} {x : α}, (∀ a, W' a → OwO (H a)) → S.r K W H v x → S.r K W' H v x
theorem Flat.two {α : Type} {S : Rp α} (f : Flat S) : Fl2 S := fun _ h => f h
theorem Fl2.p {α : Type} {S : Rp α} (f : Fl2 S) {K : PySem.W.Frag} {W W' : WS} {H : Hp} {vs : List V} {xs : List α} (o : ∀ a, W' a → OwO (H a)) (h : Paired (S.r K W H) vs xs) : Paired (S.r K W' H) vs xs := Paired.imp2 (fun _ _ z => f o z) h
theorem TW.fl2 {K : PySem.W.Frag} {W W' : WS} {H : Hp} {a : Addr} {xs : List V} (o : ∀ a, W' a → OwO (H a)) (h : TW K W H a xs) : TW K W' H a xs := SqT.tw o h.sq
theorem fl2_tup {α : Type} {S : Rp α} (f : Fl2 S) : Fl2 (tupR S) := fun o ⟨a, vs, e, t, p⟩ => ⟨a, vs, e, t.fl2 o, f.p o p⟩
theorem fl2_pr {α β : Type} {S : Rp α} {T : Rp β} (f : Fl2 S) (g : Fl2 T) : Fl2 (prR S T) := fun o ⟨a, v1, v2, e, t, p, q⟩ => ⟨a, v1, v2, e, t.fl2 o, f o p, g o q⟩
theorem fl2_tri {α β γ : Type} {S : Rp α} {T : Rp β} {U : Rp γ} (f : Fl2 S) (g : Fl2 T) (h : Fl2 U) : Fl2 (triR S T U) := fun o ⟨a, v1, v2, v3, e, t, p, q, r⟩ => ⟨a, v1, v2, v3, e, t.fl2 o, f o p, g o q, h o r⟩
theorem fl2_opt {α : Type} {S : Rp α} (f : Fl2 S) : Fl2 (optR S) := fun {K W W' H v x} o h => match x, h with | none, h => h | some _, h => ⟨f o h.1, h.2⟩
theorem tx_view2 {E α : Type} {ι : Type} {X : ι → Cx} {K : PySem.W.Frag} {L L2 : List (Sl E)} {S : Rp α} {e : Expr} {w : E → (α → Prop) → Prop} (hf : Fl2 S) (h : Sub id L L2) (ht : TX X K L2 S e w) : TX X K L S e w := by
  obtain ⟨t, p, f⟩ := ht.ex
  exact ⟨ht.mono, t, p, fun c σ H env own Q s hw => f c σ H env _ Q (s.sub h) (ht.mono _ _ _ (fun x k v H' x' r => k v H' (Ex.sub h x') (hf (fun a z => (s.ex (Ex.sub h x')).hasW z) r)) hw)⟩
theorem tn_view2 {E α : Type} {ι : Type} {X : ι → Cx} {K : PySem.W.Frag} {L L2 : List (Sl E)} {S : Rp α} {e : Expr} {w : E → (List α → Prop) → Prop} (hf : Fl2 S) (h : Sub id L L2) (ht : TN X K L2 S e w) : TN X K L S e w := by
  obtain ⟨t, p, f⟩ := ht.ex
  refine ⟨ht.mono, t, p, fun c σ H env own Q s hw => f c σ H env _ Q (s.sub h) (ht.mono _ _ _ (fun x k l vs H' n x' e r => k l vs H' n (Ex.sub h x') e (hf.p (fun a z => ?_) r)) hw)⟩
  rcases z with z | z
  · exact (s.ex (Ex.sub h x')).hasW z
  · rw [z]
    exact .lst e
/-! ### isinstance, len, and -/
section
variable {α β : Type} {K : PySem.W.Frag} {S : Rp α} {T : Rp β}
theorem isi_PT : IsI K (prR S T) "tuple" (fun _ => true) := ⟨fun {W H v x} h => by
  obtain ⟨a, v1, v2, rfl, h, _⟩ := h
  exact ⟨_, tyx_tup h.sq, kit_ty (by decide +kernel)⟩⟩
theorem isi_IB : IsI K intR "bool" (fun _ => false) := ⟨fun {W H v x} h => by
  obtain rfl := h
  exact ⟨_, TyX.base (.int _), kit_ty (by decide +kernel)⟩⟩
theorem vc_lenP : VC K (.cons (prR S T) .nil) intR (rLenK K) (fun _ k => k 2) := ⟨fun x k k' h h2 => h _ h2, fun W H x vs Q fr ⟨v, us, e, ⟨a, v1, v2, e2, h, _⟩, e3⟩ q => by
  subst e e2
  rw [show us = [] from e3]
  exact ⟨_, _, rfl, .inr ⟨_, h.sq, rfl⟩, q _ H (Same.refl _) rfl⟩⟩
def rMinK (K : PySem.W.Frag) : List V → Hp → VK → Prop := rMin K
theorem cr_minK {X : Cx} {K : PySem.W.Frag} (h : X.K = K) (hc : X.calm = true) : CallR X (.builtin "min") (rMinK K) := h ▸ cr_min hc
theorem vc_min : VC K (.cons (lstR intR) .nil) intR (rMinK K) (fun x k => 0 < x.1.length ∧ ∀ m, m ∈ x.1 → (∀ y, y ∈ x.1 → m ≤ y) → k m) := ⟨fun x k k' h h2 => ⟨h2.1, fun m a b => h _ (h2.2 m a b)⟩, fun W H x vs Q fr ⟨v, us, e, ⟨a, ws, e2, n, h, p⟩, e3⟩ q => by
  subst e e2
  rw [show us = [] from e3]
  rw [intsP p] at h
  exact ⟨a, x.1, rfl, SqL.of h, q.1, fun m hm hx => q.2 m hm hx _ H (Same.refl _) rfl⟩⟩
end
section
variable {E α : Type} {ι : Type} {X : ι → Cx} {K : PySem.W.Frag} {L : List (Sl E)} {S : Rp α} {a b d e : Expr} {pos p : Pos} {wa wb wd : E → (Bool → Prop) → Prop}
theorem tx_and3 (ha : TX X K L boolR a wa) (hb : TX X K L boolR b wb) (hd : TX X K L boolR d wd) : TX X K L boolR (.BoolOp .And [a, b, d] pos) (fun env k => wa env fun x => if x = true then (wb env fun y => if y = true then wd env k else k false) else k false) := by
  obtain ⟨t1, p1, f1⟩ := ha.ex
  obtain ⟨t2, p2, f2⟩ := hb.ex
  obtain ⟨t3, p3, f3⟩ := hd.ex
  refine ⟨fun e k k' h hw => ha.mono _ _ _ (fun x hx => ?_) hw, _, fun i => pe_and (p1 i) (pe_and (p2 i) (pe_one (p3 i))), fun c σ H env own Q s hw => f1 c σ H env own _ s (ha.mono _ _ _ (fun x hx v H1 x1 r => ?_) hw)⟩
  · cases x
    · exact h _ hx
    · refine hb.mono _ _ _ (fun y hy => ?_) hx
      cases y
      · exact h _ hy
      · exact hd.mono _ _ _ h hy
  · refine ⟨x, r, ?_⟩
    cases x
    · exact hx _ H1 x1 rfl
    · refine f2 c σ H1 env own _ (s.ex x1) (hb.mono _ _ _ (fun y hy v H2 x2 r => ?_) hx)
      refine ⟨y, r, ?_⟩
      cases y
      · exact hy _ H2 (x1.trans x2) rfl
      · exact f3 c σ H2 env own _ ((s.ex x1).ex x2) (hd.mono _ _ _ (fun z hz v H3 x3 r => hz v H3 ((x1.trans x2).trans x3) r) hy)
theorem tx_not (h : TX X K L boolR a wa) : TX X K L boolR (.UnaryOp .Not a pos) (fun e k => wa e fun b => k (!b)) := by
  obtain ⟨t, p, f⟩ := h.ex
  exact ⟨fun e k k' h' hw => h.mono _ _ _ (fun b hb => h' _ hb) hw, _, fun i => pe_not (p i), fun c σ H env own Q s hw => f c σ H env own _ s (h.mono _ _ _ (fun b hb v H' x r => ⟨b, r, hb _ H' x rfl⟩) hw)⟩
/-- a list's truth -/
theorem tt_truthL {w : E → (List α → Prop) → Prop} (h : TX X K L (lstR S) e w) (hK : ∀ j, (X j).K = K := by intro _; rfl) (he : ∀ i whole, isTrue e (X i).env whole = (do let v ← whole; standAt e.pos; holding [v] (truthy v)) := by intro _ _; rfl) : TT X K L e (fun env k => w env fun xs => k (!xs.isEmpty)) := by
  obtain ⟨t, ht, f⟩ := h.ex
  refine ⟨fun e k k' hk hw => h.mono _ _ _ (fun xs hx => hk _ hx) hw, _, fun i => by
    have z := pt_truth (ht i) (he i)
    rw [hK i] at z
    exact z, fun c σ H env own Q s hw => f c σ H env own _ s (h.mono _ _ _ (fun xs hx v H' x r => ?_) hw)⟩
  obtain ⟨a, vs, rfl, n, e, p⟩ := r
  refine ⟨!xs.isEmpty, .inl ⟨vs, SqL.of e, ?_⟩, hx H' x⟩
  have := Paired.length p
  cases vs <;> cases xs <;> simp_all
end
/-! ### data: lists of lists, of pairs; None -/
section
variable {α β : Type} {S : Rp α} {T : Rp β}
theorem sh_list {d : α → PyData} {xs : List α} (h : ∀ x ∈ xs, SeqAt.shaped (d x) = true) (dp : ∀ x ∈ xs, (d x).depth ≤ 60) : SeqAt.shaped (.list (xs.map d)) = true := by
  unfold SeqAt.shaped
  rw [Bool.and_eq_true]
  constructor
  · simp only [PyData.canLay0]
    induction xs with
    | nil => rfl
    | cons x xs ih =>
      have q := h x List.mem_cons_self
      unfold SeqAt.shaped at q
      rw [Bool.and_eq_true] at q
      simp only [List.map_cons, PyData.canLayAll0, Bool.and_eq_true]
      exact ⟨q.1, ih (fun y hy => h y (List.mem_cons_of_mem _ hy)) fun y hy => dp y (List.mem_cons_of_mem _ hy)⟩
  · refine decide_eq_true ?_
    simp only [PyData.depth]
    have : PyData.depthAll (xs.map d) ≤ 60 := by
      clear h
      induction xs with
      | nil => exact Nat.zero_le _
      | cons x xs ih =>
        simp only [List.map_cons, PyData.depthAll]
        have a := dp x List.mem_cons_self
        have b := ih fun y hy => dp y (List.mem_cons_of_mem _ hy)
        omega
    omega
theorem dat_i : Dat intR .int (fun _ => True) := ⟨fun h => by rw [show _ = V.int _ from h]; exact .int _, fun x _ => by
  unfold SeqAt.shaped
  rw [Bool.and_eq_true]
  exact ⟨rfl, decide_eq_true (by simp only [PyData.depth]; omega)⟩⟩
theorem dat_si : Dat (prR strR intR) (fun x => .tuple [.str x.1, .int x.2]) (fun x => okS x.1) := ⟨fun ⟨a, v1, v2, e, t, p, q⟩ => by
  rw [e]
  exact .tup t.sq (.cons (dat_s.dp p) (.cons (dat_i.dp q) .nil)), fun x h => by
  unfold SeqAt.shaped
  rw [Bool.and_eq_true]
  have q := dat_s.sh x.1 h
  unfold SeqAt.shaped at q
  rw [Bool.and_eq_true] at q
  refine ⟨?_, decide_eq_true ?_⟩
  · simp only [PyData.canLay0, PyData.canLayAll0, Bool.and_eq_true]
    exact ⟨q.1, trivial, trivial⟩
  · simp only [PyData.depth, PyData.depthAll]
    omega⟩
theorem dat_lst {d : α → PyData} {ok : α → Prop} (D : Dat S d ok) (dp : ∀ x, ok x → (d x).depth ≤ 60) : Dat (lstR S) (fun xs => .list (xs.map d)) (fun xs => ∀ x ∈ xs, ok x) := ⟨fun ⟨a, vs, e, n, h, p⟩ => by
  subst e
  exact .lst (SqL.of h) (dp_all (S := S) (fun h => D.dp h) p), fun xs h => sh_list (fun x hx => D.sh x (h x hx)) fun x hx => dp x (h x hx)⟩
theorem d_ls (xs : List Str) : (PyData.list (xs.map .str)).depth ≤ 60 := by
  simp only [PyData.depth]
  have : PyData.depthAll (xs.map PyData.str) ≤ 0 := by
    induction xs with
    | nil => exact Nat.zero_le _
    | cons x xs ih => simpa [PyData.depthAll, PyData.depth] using ih
  omega
theorem d_si (x : Str × Int) : (PyData.tuple [.str x.1, .int x.2]).depth ≤ 60 := by
  simp only [PyData.depth, PyData.depthAll]
  omega
theorem dat_lls : Dat (lstR (lstR strR)) (fun xs => .list (xs.map fun x => .list (x.map .str))) (fun xs => ∀ x ∈ xs, ∀ y ∈ x, okS y) := dat_lst dat_ls fun x _ => d_ls x
theorem dat_lsi : Dat (lstR (prR strR intR)) (fun xs => .list (xs.map fun x => .tuple [.str x.1, .int x.2])) (fun xs => ∀ x ∈ xs, okS x.1) := dat_lst dat_si fun x _ => d_si x
theorem dat_opt {d : α → PyData} {ok : α → Prop} (D : Dat S d ok) : Dat (optR S) (fun x => match x with | none => .none | some y => d y) (fun x => ∀ y, x = some y → ok y) := ⟨fun {K W H v x} h => match x, h with
  | none, h => by rw [show v = V.non from h]; exact .non
  | some _, h => D.dp h.1, fun x h => match x, h with
  | none, _ => (by decide : SeqAt.shaped PyData.none = true)
  | some y, h => D.sh y (h y rfl)⟩
variable {K : PySem.W.Frag}
theorem v_eqD2 {d : α → PyData} {ok : α → Prop} {d' : β → PyData} {ok' : β → Prop} (D : Dat S d ok) (D' : Dat T d' ok') : VR2 K S T boolR (rEqD K) (fun x y k => ok x ∧ ok' y ∧ k (PyData.eqv (d x) (d' y))) := ⟨fun x y k k' h h2 => ⟨h2.1, h2.2.1, h _ h2.2.2⟩, fun W H x y v u Q fr r1 r2 ⟨h1, h2, q⟩ =>
  ⟨d x, d' y, D.dp r1, D'.dp r2, D.sh x h1, D'.sh y h2, q _ H (Same.refl _) rfl⟩⟩
theorem v_inD {d : α → PyData} {ok : α → Prop} (D : Dat S d ok) (D' : Dat (lstR S) (fun xs => .list (xs.map d)) (fun xs => ∀ x ∈ xs, ok x)) : VR2 K S (lstR S) boolR (rInD K) (fun x ys k => ok x ∧ (∀ y ∈ ys, ok y) ∧ k ((ys.map d).any fun z => PyData.eqv z (d x))) := ⟨fun x y k k' h h2 => ⟨h2.1, h2.2.1, h _ h2.2.2⟩, fun W H x ys v u Q fr r1 r2 ⟨h1, h2, q⟩ =>
  ⟨d x, ys.map d, D.dp r1, D'.dp r2, D.sh x h1, D'.sh ys h2, q _ H (Same.refl _) rfl⟩⟩
theorem v_ninD {d : α → PyData} {ok : α → Prop} (D : Dat S d ok) (D' : Dat (lstR S) (fun xs => .list (xs.map d)) (fun xs => ∀ x ∈ xs, ok x)) : VR2 K S (lstR S) boolR (rNotInD K) (fun x ys k => ok x ∧ (∀ y ∈ ys, ok y) ∧ k (!(ys.map d).any fun z => PyData.eqv z (d x))) := ⟨fun x y k k' h h2 => ⟨h2.1, h2.2.1, h _ h2.2.2⟩, fun W H x ys v u Q fr r1 r2 ⟨h1, h2, q⟩ =>
  ⟨d x, ys.map d, D.dp r1, D'.dp r2, D.sh x h1, D'.sh ys h2, q _ H (Same.refl _) rfl⟩⟩
end
end Tx

/-! permutations and enumerated tuples, walked; places in tuples; items stored; an empty own dict -/
namespace Tx
open PySem PySem.Spec PyProof.Rows L2 Gx Pm En
def permsL {α : Type} (xs : List α) : List (List α) := lexF xs.length xs
theorem paired_flat {α β : Type} {R : α → β → Prop} {f : Nat → List α} {g : Nat → List β} : ∀ {l : List Nat}, (∀ d ∈ l, Paired R (f d) (g d)) → Paired R (l.flatMap f) (l.flatMap g)
  | [], _ => .nil
  | d :: l, h => by
    rw [List.flatMap_cons, List.flatMap_cons]
    exact Paired.app (h d List.mem_cons_self) (paired_flat fun e he => h e (List.mem_cons_of_mem _ he))
theorem paired_map {α β α' β' : Type} {R : α → β → Prop} {R' : α' → β' → Prop} {f : α → α'} {g : β → β'} (h : ∀ a b, R a b → R' (f a) (g b)) : ∀ {xs : List α} {ys : List β}, Paired R xs ys → Paired R' (xs.map f) (ys.map g)
  | _, _, .nil => .nil
  | _, _, .cons r t => .cons (h _ _ r) (paired_map h t)
theorem paired_erase {α β : Type} {R : α → β → Prop} : ∀ {xs : List α} {ys : List β} (n : Nat), Paired R xs ys → Paired R (xs.eraseIdx n) (ys.eraseIdx n)
  | _, _, _, .nil => .nil
  | _, _, 0, .cons _ t => t
  | _, _, n + 1, .cons h t => .cons h (paired_erase n t)
theorem lexF_paired {α β : Type} {R : α → β → Prop} : ∀ (k : Nat) {xs : List α} {ys : List β}, Paired R xs ys → Paired (Paired R) (lexF k xs) (lexF k ys)
  | 0, _, _, _ => .cons .nil .nil
  | k + 1, xs, ys, p => by
    have len := Paired.length p
    unfold lexF
    rw [← len]
    refine paired_flat fun d hd => ?_
    have lt := List.mem_range.mp hd
    have e1 : xs[d]? = some xs[d] := List.getElem?_eq_getElem lt
    obtain ⟨y, e2, r⟩ := Paired.at2 p e1
    rw [e1, e2]
    exact paired_map (fun _ _ q => .cons r q) (lexF_paired k (paired_erase d p))
theorem erase_map {α β : Type} (f : α → β) : ∀ (xs : List α) (n : Nat), (xs.map f).eraseIdx n = (xs.eraseIdx n).map f
  | [], _ => rfl
  | x :: xs, 0 => rfl
  | x :: xs, n + 1 => by
    simp only [List.map_cons, List.eraseIdx_cons_succ]
    rw [erase_map f xs n]
theorem lexF_map {α β : Type} (f : α → β) : ∀ (k : Nat) (xs : List α), lexF k (xs.map f) = (lexF k xs).map (List.map f)
  | 0, _ => rfl
  | k + 1, xs => by
    unfold lexF
    rw [List.length_map, List.map_flatMap]
    congr 1
    funext d
    rw [List.getElem?_map]
    cases xs[d]? with
    | none => rfl
    | some x =>
      show (lexF k ((xs.map f).eraseIdx d)).map _ = _
      rw [erase_map, lexF_map f k]
      simp [List.map_map, Function.comp_def]
theorem lexF_range {n : Nat} (n1 : 1 ≤ n) (n5 : n ≤ 5) : (lexF n (List.range n)).length = fct n := by
  have all : ((List.range 6).all fun n => n == 0 || (lexF n (List.range n)).length == fct n) = true := by decide +kernel
  have a := List.all_eq_true.mp all n (List.mem_range.mpr (by omega))
  rw [Bool.or_eq_true] at a
  rcases a with a | a
  · have := beq_iff_eq.mp a
    omega
  · exact beq_iff_eq.mp a
theorem range_getD {α : Type} (xs : List α) (d : α) : (List.range xs.length).map (fun i => xs.getD i d) = xs := by
  refine List.ext_getElem? fun i => ?_
  rw [List.getElem?_map]
  by_cases h : i < xs.length
  · rw [List.getElem?_range h, List.getElem?_eq_getElem h]
    simp [h]
  · rw [List.getElem?_eq_none (by simpa using h), List.getElem?_eq_none (by omega)]
    rfl
theorem lexF_pick {vs : List V} (n1 : 1 ≤ vs.length) (n5 : vs.length ≤ 5) {i : Nat} (hi : i < fct vs.length) : (lexF vs.length vs)[i]? = some (pickV vs (idxs vs.length i)) := by
  have e : lexF vs.length vs = (lexF vs.length (List.range vs.length)).map (List.map fun i => vs.getD i .non) := by
    conv => lhs; arg 2; rw [← range_getD vs .non]
    rw [lexF_map]
  rw [e, List.getElem?_map]
  have l := lexF_range n1 n5
  have h : (lexF vs.length (List.range vs.length))[i]? = some (idxs vs.length i) := by
    unfold idxs
    rw [List.getElem?_eq_getElem (by omega)]
    rfl
  rw [h]
  rfl
theorem permsL_len {α : Type} {xs : List α} (n1 : 1 ≤ xs.length) (n5 : xs.length ≤ 5) : (permsL xs).length = fct xs.length := by
  have p : Paired (fun (_ : Nat) (_ : α) => True) (List.range xs.length) xs := by
    have : ∀ {l : List Nat} {xs : List α}, l.length = xs.length → Paired (fun (_ : Nat) (_ : α) => True) l xs := by
      intro l
      induction l with
      | nil =>
        intro xs h
        cases xs with
        | nil => exact .nil
        | cons x xs => simp at h
      | cons a l ih =>
        intro xs h
        cases xs with
        | nil => simp at h
        | cons x xs => exact .cons trivial (ih (by simpa using h))
    exact this (List.length_range ..)
  have := Paired.length (lexF_paired xs.length p)
  unfold permsL
  rw [← this]
  exact lexF_range n1 n5
section
variable {E α : Type} {ι : Type} {X : ι → Cx} {K : PySem.W.Frag} {L : List (Sl E)} {S : Rp α} {tg e : Expr} {pos p : Pos}
theorem it_perm {f : Str} {we : E → (List α → Prop) → Prop} (hg : ∀ j, Gl (X j) f) (hm : ∀ j, (X j).mg f = some (.type "itertools.permutations")) (h : TX X K L (lstR S) e we) (hK : ∀ j, (X j).K = K := by intro _; rfl) (hs : ∀ j, starEach [e] (X j).env = [(false, eval e (X j).env)] := by intro _; rfl) (hd : (f == ("__debug__" : Str)) = false := by decide) :
    TIt X K L (tupR S) tg (.Call (.Name f p) [e] [] pos) (fun env k => we env fun xs => (1 ≤ xs.length ∧ xs.length ≤ 5) ∧ k (permsL xs)) := by
  obtain ⟨t, pe, g⟩ := h.ex
  refine ⟨fun e k k' hk hw => h.mono _ _ _ (fun n hn => ⟨hn.1, hk _ hn.2⟩) hw, _, fun j => by
    have z := pi_perm (tg := tg) (pos := pos) (p := p) (hg j) (hm j) (pa_cons (pe j) pa_nil (hs j)) (hs j) hd
    rw [hK j] at z
    exact z, fun c σ H env own Q s hw => g c σ H env own _ s (h.mono _ _ _ (fun xs hx v H1 x1 r => ?_) hw)⟩
  obtain ⟨⟨n1, n5⟩, hx⟩ := hx
  obtain ⟨a, vs, rfl, n, e1, p1⟩ := r
  have ll := Paired.length p1
  refine ⟨a, vs, rfl, SqL.of e1, by omega, by omega, hx _ H1 (fun _ => True) (fun i H v H' => (Itp vs).yld i H v H') x1 ?_ ⟨fun _ _ _ => trivial, fun W' H2 H3 i v g fr hi y => ?_⟩⟩
  · rw [permsL_len n1 n5, ← ll]
    exact ⟨fun i H lt _ => lt, fun H _ => rfl, fun i H x H' _ _ y => y⟩
  · obtain ⟨T, rfl, hT, rfl⟩ := y
    rw [permsL_len n1 n5, ← ll] at hi
    have pp : Paired (Paired (S.r K W' (upd H2 T (.tup (pickV vs (idxs vs.length i)))))) (lexF vs.length vs) (lexF vs.length xs) := lexF_paired vs.length (S.pmono (g.trans (Ge.same (Same.new hT))) p1)
    obtain ⟨x, hx2, rx⟩ := Paired.at2 pp (lexF_pick (by omega) (by omega) hi)
    refine ⟨Same.new hT, x, ?_, T, _, rfl, TW.of (fr T hT) upd_same, rx⟩
    unfold permsL
    rw [← ll]
    exact hx2
theorem it_enumT {es : List Expr} {kk : Nat} {tpos : Pos} {we : E → (List α → Prop) → Prop} (hg : ∀ j, Gl (X j) "enumerate") (hm : ∀ j, (X j).mg "enumerate" = none) (h : TX X K L (tupR S) e we) (hK : ∀ j, (X j).K = K := by intro _; rfl) (hs : ∀ j, starEach [e] (X j).env = [(false, eval e (X j).env)] := by intro _; rfl) :
    TIt X K L (prR intR S) (.Tuple es kk tpos) (.Call (.Name "enumerate" p) [e] [] pos) (fun env k => we env fun xs => k (xs.zipIdx.map fun q => ((q.2 : Int), q.1))) := by
  obtain ⟨t, pe, f⟩ := h.ex
  refine ⟨fun e k k' hk hw => h.mono _ _ _ (fun n hn => hk _ hn) hw, _, fun j => by
    have z := pi_enumT (elts := es) (kk := kk) (tpos := tpos) (pos := pos) (p := p) (hg j) (hm j) (pa_cons (pe j) pa_nil (hs j)) (hs j)
    rw [hK j] at z
    exact z, fun c σ H env own Q s hw => f c σ H env own _ s (h.mono _ _ _ (fun xs hx v H1 x1 r => ?_) hw)⟩
  obtain ⟨a, vs, rfl, e1, p1⟩ := r
  have ll := Paired.length p1
  refine ⟨a, vs, rfl, e1.sq, hx _ H1 (fun H => SqT K H a vs) (fun i H v H' => (IteT K a vs).yld i H v H') x1 ?_ ⟨fun W' H2 g => (e1.mono g).sq, fun W' H2 H3 i v g fr hi y => ?_⟩⟩
  · rw [List.length_map, List.length_zipIdx, ← ll]
    exact ⟨fun i H lt hq => ⟨hq, lt⟩, fun H hq => ⟨hq, rfl⟩, fun i H x H' _ _ y => y⟩
  · obtain ⟨T, w, rfl, hT, rfl, hw'⟩ := y
    obtain ⟨x, hx2, rx⟩ := Paired.at2 p1 hw'
    refine ⟨Same.new hT, ((i : Int), x), ?_, T, .int (i : Nat), w, rfl, TW.of (fr T hT) upd_same, rfl, S.mono (g.trans (Ge.same (Same.new hT))) rx⟩
    rw [List.getElem?_map, List.getElem?_zipIdx, hx2]
    simp
/-- a tuple that is known to the last: it has no dict of its own -/
def xtR {α : Type} (S : Rp α) : Rp (List α) := ⟨fun K W H v xs => ∃ a vs o, v = .ref a ∧ ¬ W a ∧ H a = some (.frz o (.tup vs)) ∧ o.dict = none ∧ Paired (S.r K W H) vs xs,
  fun g ⟨a, vs, o, e, n, h, d, p⟩ => ⟨a, vs, o, e, (g _ _ n h).1, (g _ _ n h).2, d, S.pmono g p⟩⟩
theorem xtR.t {S : Rp α} {K : PySem.W.Frag} {W : WS} {H : Hp} {v : V} {xs : List α} (h : (xtR S).r K W H v xs) : (tupR S).r K W H v xs := by
  obtain ⟨a, vs, o, e, n, h, d, p⟩ := h
  exact ⟨a, vs, e, .inl ⟨n, .inr ⟨o, h⟩⟩, p⟩
theorem TX.x2t {w : E → (List α → Prop) → Prop} (h : TX X K L (xtR S) e w) : TX X K L (tupR S) e w := by
  obtain ⟨t, p, f⟩ := h.ex
  exact ⟨h.mono, t, p, fun c σ H env own Q s hw => f c σ H env own Q s (h.mono _ _ _ (fun xs k v H' x r => k v H' x (xtR.t r)) hw)⟩
theorem kv_x {K : PySem.W.Frag} {S : Rp α} {f : α → NestedKey} {n : Nat} (h : KV K S f n) : KV K (xtR S) (kTup f) (n + 1) := by
  have z := kv_tup h
  exact ⟨fun r => z.nk (xtR.t r), z.dp, z.inj⟩
theorem fl2_x {S : Rp α} (f : Fl2 S) : Fl2 (xtR S) := fun {K W W' H v x} o ⟨a, vs, ob, e, n, h, d, p⟩ => by
  refine ⟨a, vs, ob, e, fun z => ?_, h, d, f.p o p⟩
  have q := o a z
  rw [h] at q
  rcases q with ⟨us, q⟩ | ⟨φ, q, y⟩
  · simp at q
  · cases q
    rcases y with ⟨_, y⟩ | ⟨_, _, y⟩ <;> cases y
def rTupX (K : PySem.W.Frag) : List V → Hp → VK → Prop := fun xs H Q => ∃ p ys, xs = [.ref p] ∧ SqL K H p ys ∧ ∀ l (o : Obj), H l = none → o.dict = none → Q (.ref l) (upd H l (.frz o (.tup ys)))
theorem call_tupX {X : Cx} {K : PySem.W.Frag} (hK : X.K = K) : CallR X (.type "tuple") (rTupX K) := by
  subst hK
  intro pins s σ H xs us Q I r h
  obtain ⟨p, ys, rfl, hq, q⟩ := h
  obtain ⟨u, rfl, rx⟩ := vals1 r
  cases rx
  obtain ⟨its, r', pl, hz⟩ := I.list hq
  have hlen := r'.length
  refine call_tuple_list pl.isList (fun h' kp => ?_) (by simp only [List.size_toArray] <;> omega)
  have I1 : Inv X pins σ H { s with heap := h' } := I.kept (t' := s.toks) kp
  have I2 : Inv X pins σ (upd H h'.objs.size (.frz { cls := .type "tuple", data := .seq its.toArray } (.tup ys))) { s with heap := h'.push { cls := .type "tuple", data := .seq its.toArray } } :=
    I1.laid (t' := s.toks) (fun b o e => Heap.get?_push_of_some _ e) (Nat.le_refl _) (show ObjOk X.prog X.w _ _ _ (.frz _ (.tup ys)) from ⟨Heap.get?_push_size _ rfl, hz, its, r', IsTup.new _ _⟩)
  exact ⟨.ref h'.objs.size, _, I2, rfl, q _ _ (I1.hok.fresh (Nat.le_refl _)) rfl⟩
theorem vc_tupX {S : Rp α} : VC K (.cons (lstR S) .nil) (xtR S) (rTupX K) (fun x k => k x.1) := ⟨fun x k k' h h2 => h _ h2, fun W H x vs Q fr ⟨v, us, e, ⟨a, ws, e2, n, h, p⟩, e3⟩ q => by
  subst e e2
  rw [show us = [] from e3]
  exact ⟨a, ws, rfl, SqL.of h, fun l o hl od => q _ _ (Same.new hl) ⟨l, ws, o, rfl, fr l hl, upd_same, od, S.pmono (Ge.same (Same.new hl)) p⟩⟩⟩
/-- t.index(x), t without a dict of its own -/
theorem pe_indexX {X : Cx} {o e : Expr} {to : TE} {t : L2.TA} {apos cpos : Pos} (ho : PE X o to) (ha : PA X [e] t) (hbase : attributeBase o "index" X.env (eval o X.env) = eval o X.env)
    (hfew : ((backTo cpos (starEach [e] X.env)).all (fun x => !x.1) && (backToKw cpos (keywordEach [] X.env)).all (fun x => x.1.isSome) && decide (([e] : List Expr).length + ([] : List Keyword).length + (if ([] : List Keyword).isEmpty then 0 else 1) < 30)) = true)
    (hline : (apos.endLine == cpos.line) = true) (hs : starEach [e] X.env = (false, eval e X.env) :: starEach [] X.env) :
    PE X (.Call (.Attribute o "index" apos) [e] [] cpos) (fun σ H Q => to σ H fun x H1 => (∃ a ob vs, x = .ref a ∧ H1 a = some (.frz ob (.tup vs)) ∧ ob.dict = none) ∧ t σ H1 fun xs H2 => ∃ p, ∃ ys : List Str, ∃ z j, x = .ref p ∧ xs = [.str z] ∧ SqT X.K H2 p (ys.map V.str) ∧ ys[j]? = some z ∧ (∀ m, m < j → ys[m]? ≠ some z) ∧ Q (.int (j : Nat)) H2) := by
  refine ⟨fun pins s σ H Q I h => ?_⟩
  refine wpAny_Call_method_late hbase hfew hline rfl (thn (ho.run pins s σ H _ I h) fun v s1 ⟨x, H1, I1, r1, ⟨a, ob, vs, ex, hx, dn⟩, q1⟩ => ?_)
  subst ex
  cases r1
  obtain ⟨g, z1, its, rv, o2, g2, c2, n2, d2⟩ : ObjOk X.prog X.w H1 s1.heap a (.frz ob (.tup vs)) := I1.hok a _ hx
  have eo : o2 = ob := by
    rw [g] at g2
    exact (Option.some.inj g2).symm
  subst eo
  refine ⟨"tuple", "tuple.index", PySem.F.plainAttrs_tuple, PySem.F.slot_tuple_index, PySem.F.type_tuple_index, ⟨_, g, c2⟩, fun b e => ?_, ?_⟩
  · cases e
    exact ⟨_, g, dn⟩
  · have hA := ha.run cpos pins s1 σ H1 _ I1 q1
    rw [hs] at hA ⊢
    refine Calls.callWith_builtin (by rfl) (Calls.evalArgs_plain ?_)
    refine thn hA ?_
    rintro us s2 ⟨ws, H2, I2, r2, q2⟩
    exact mt_tup_index pins s2 σ H2 (.ref a) ws (.ref a) us Q I2 rfl r2 q2
theorem tx_indexX {o x : Expr} {cpos apos : Pos} {wo : E → (List Str → Prop) → Prop} {wx : E → (Str → Prop) → Prop} (ho : TX X K L (xtR strR) o wo) (hx : TX X K L strR x wx) (hK : ∀ j, (X j).K = K := by intro _; rfl)
    (hbase : ∀ j, attributeBase o "index" (X j).env (eval o (X j).env) = eval o (X j).env := by intro _; rfl)
    (hfew : ∀ j, ((backTo cpos (starEach [x] (X j).env)).all (fun x => !x.1) && (backToKw cpos (keywordEach [] (X j).env)).all (fun x => x.1.isSome) && decide (([x] : List Expr).length + ([] : List Keyword).length + (if ([] : List Keyword).isEmpty then 0 else 1) < 30)) = true := by intro _; rfl)
    (hline : (apos.endLine == cpos.line) = true := by rfl) (hse : ∀ j, starEach [x] (X j).env = (false, eval x (X j).env) :: starEach [] (X j).env := by intro _; rfl) :
    TX X K L intR (.Call (.Attribute o "index" apos) [x] [] cpos) (fun env k => wo env fun xs => wx env fun y => y ∈ xs ∧ k (idxS xs y : Int)) := by
  obtain ⟨t1, p1, f1⟩ := ho.ex
  obtain ⟨t2, p2, f2⟩ := hx.ex
  refine ⟨fun e k k' hk hw => ho.mono _ _ _ (fun xs h1 => hx.mono _ _ _ (fun y hy => ⟨hy.1, hk _ hy.2⟩) h1) hw, _, fun j => by
    have z := pe_indexX (p1 j) (pa_cons (p2 j) pa_nil (hse j)) (hbase j) (hfew j) hline (hse j)
    rw [hK j] at z
    exact z, fun c σ H env own Q s hw => ?_⟩
  refine f1 c σ H env own _ s (ho.mono _ _ _ (fun xs hxs v1 H1 x1 r1 => ?_) hw)
  have r1' := r1
  obtain ⟨a, vs, ob, rfl, n1, e1, d1, q1⟩ := r1
  refine ⟨⟨a, ob, vs, rfl, e1, d1⟩, ?_⟩
  refine f2 c σ H1 env own _ (s.ex x1) (hx.mono _ _ _ (fun y hy v2 H2 x2 r2 => ?_) hxs)
  cases r2
  obtain ⟨_, _, e2, e3, q3⟩ := xtR.t ((xtR strR).mono x2.ge r1')
  cases e2
  have ev := p_str q3
  subst ev
  have lt : idxS xs y < xs.length := List.findIdx_lt_length_of_exists ⟨y, hy.1, decide_eq_true rfl⟩
  have at1 : xs[idxS xs y] = y := of_decide_eq_true (List.findIdx_getElem (p := fun z => decide (z = y)) (w := lt))
  refine ⟨a, xs, y, idxS xs y, rfl, rfl, e3.sq, ?_, fun m hm hz => ?_, hy.2 _ H2 (x1.trans x2) rfl⟩
  · rw [List.getElem?_eq_getElem lt, at1]
  · obtain ⟨hml, hz2⟩ := List.getElem?_eq_some_iff.mp hz
    have := List.not_of_lt_findIdx (p := fun z => decide (z = y)) (xs := xs) (i := m) hm
    rw [hz2] at this
    simp at this
end
section
variable {E α κ β ρ ι : Type} [DecidableEq κ] {X : ι → Cx} {K : PySem.W.Frag} {R : RetR ρ} {L L' : List (Sl E)} {S : Rp α} {SK : Rp κ} {T : Rp β} {kf : κ → NestedKey} {P : Program} {w : World} {e a : Expr} {pos p : Pos}
/-- x = {}, to be one's own dict with nested keys -/
theorem ts_newD {set : E → List (κ × β) → E} {i : Nat} {x : Str} {p2 : Pos} (hP : ∀ j, (X j).prog = P ∧ (X j).w = w) (hN : ∀ j, (X j).N.Nodup) (hi : ∀ j, (X j).N[i]? = some x) (hx : ∀ j, Loc (X j).env.scope x) (hl : ∃ s0, (lift (List (κ × β)) L)[i]? = some s0 ∧ s0 ≠ .sr)
    (hsub : Sub (fun e : E × List (κ × β) => set e.1 e.2) ((lift (List (κ × β)) L).set i (.ox (ndR P w SK kf T) Prod.snd)) L') (hs : ∀ j, swapsWith (.Dict [] [] p2) (some (.Name x p)) pos.line (X j).env = pure false := by intro _; rfl)
    (hf : ∀ j, (X j).fn x = true ∨ (X j).env.scope.names.lookup x = some .local := by intro _; first | exact .inl rfl | exact .inr rfl | assumption) : TS1 X K R L L' (.Assign [.Name x p] (.Dict [] [] p2) pos) (fun env k => k.nx (set env [])) := by
  have pe : ∀ j, PE (X j) (.Dict [] [] p2) (fun _ H Q => ∀ d, H d = none → Q (.ref d) (upd H d (ndO P w d []))) := fun j => ⟨fun pins s σ H Q I h =>
    wpAny_Dict_empty ⟨.ref s.heap.objs.size, _, I.laid (a := s.heap.objs.size) (o := ndO P w s.heap.objs.size []) (t' := s.toks) (fun _ _ q => Heap.get?_push_of_some _ q) (Nat.le_refl _) (by
      have z : ObjOk (X j).prog (X j).w (upd H s.heap.objs.size (ndO (X j).prog (X j).w s.heap.objs.size [])) (s.heap.push { cls := .type "dict", data := .dict #[] }) s.heap.objs.size (ndO (X j).prog (X j).w s.heap.objs.size []) :=
        ndP.ok ⟨Nat.zero_le _, beq_eq_false_iff_ne.mpr (Ne.symm (Nat.ne_of_lt I.big)), [], .nil, List.nodup_nil, _, #[], 0, Heap.get?_push_size _ rfl, ⟨rfl, rfl, rfl⟩, rfl, rfl⟩
      rw [(hP j).1, (hP j).2] at z
      rw [(hP j).1, (hP j).2]
      exact z), rfl, h _ (I.hok.fresh (Nat.le_refl _))⟩⟩
  refine ⟨fun e k k' hn _ hw => hn _ hw, _, fun j => ps_set (hN j) (hi j) (hx j) (pe j) (hs j) (hf j), fun c σ H env own D s hw => fun d hd => ?_⟩
  have x' : Ex L own H (upd H d (ndO P w d [])) := s.exSame (Same.new hd)
  exact hw _ _ _ (((s.lift []).setX ⟨fun a o na => x'.st a o fun z => na (Sr.lift.mpr z), fun a z => x'.sr a (Sr.lift.mp z)⟩ hl (ndR P w SK kf T) Prod.snd hd upd_same ⟨[], rfl, .nil⟩).sub hsub)
/-- xs[e'] = e, one's own list -/
theorem ts_setAt {g : E → List α} {set : E → List α → E} {i : Nat} {x : Str} {p2 : Pos} {we : E → (α → Prop) → Prop} {wa : E → (Int → Prop) → Prop} (hL : L[i]? = some (.ow S g)) (hN : ∀ j, (X j).N[i]? = some x) (hv : ∀ j, Vis (X j).env.scope x) (he : TX X K L S e we) (ha : TX X K L intR a wa)
    (hsub : Sub (fun e : E × List α => set e.1 e.2) ((lift (List α) L).set i (.ow S Prod.snd)) L')
    (has : ∀ j v, assign (.Subscript (.Name x p) a p2) (X j).env v = (do
      let ov ← holding [v] (eval (.Name x p) (X j).env)
      let iv ← holding [v, ov] (eval a (X j).env)
      standAt p2
      holding [v, ov, iv] (setItem ov iv v)
      release [v, ov, iv] []) := by intro _ _; rfl)
    (hss : ∀ j, swapsWithSole [.Subscript (.Name x p) a p2] e pos.line (X j).env = pure false := by intro _; rfl) (hsw : ∀ j, swappedStores [.Subscript (.Name x p) a p2] e (X j).env = pure none := by intro _; rfl)
    (h1 : ∀ j, (assignEach [.Subscript (.Name x p) a p2] (X j).env).map (·.2) = [assign (.Subscript (.Name x p) a p2) (X j).env] := by intro _; rfl)
    (hd : (x == ("__debug__" : Str)) = false := by decide) (hcd : (x == ("__classdict__" : Str)) = false := by decide) :
    TS1 X K R L L' (.Assign [.Subscript (.Name x p) a p2] e pos) (fun env k => we env fun v => wa env fun z => ∃ n, ixN (g env).length z = some n ∧ k.nx (set env ((g env).set n v))) := by
  obtain ⟨t1, p1, f1⟩ := he.ex
  obtain ⟨t2, p2', f2⟩ := ha.ex
  refine ⟨fun e k k' hn _ hw => he.mono _ _ _ (fun v hv => ha.mono _ _ _ (fun y ⟨n, h1, h2⟩ => ⟨n, h1, hn _ h2⟩) hv) hw, _, fun j => ps_asg (p1 j) (pg_sub (pe_var (hN j) (hv j) hd hcd) (p2' j) set_list (has j)) (hss j) (hsw j) (h1 j), fun c σ H env own D s hw => ?_⟩
  refine f1 c σ H env own _ s (he.mono _ _ _ (fun v hv v1 H1 x1 r1 => ?_) hw)
  have s1 := s.ex x1
  obtain ⟨d, us, q1, q2, q3, q4, _⟩ := s1.slot i _ hL
  refine ⟨.ref d, q2, f2 c σ H1 env own _ s1 (ha.mono _ _ _ (fun z ⟨n, hn, hk⟩ v2 H2 x2 r2 => ?_) hv)⟩
  have s2 := s1.ex x2
  obtain ⟨d', us', q1', q2', q3', q4', pr⟩ := s2.slot i _ hL
  rw [q1] at q1'
  cases q1'
  have len := Paired.length pr
  refine ⟨d, us', z, n, rfl, r2, q4', by rw [len]; exact hn, ?_⟩
  have ps : ∀ {vs : List V} {xs : List α} (n : Nat), Paired (S.r K (Wb c own) H2) vs xs → Paired (S.r K (Wb c own) H2) (vs.set n v1) (xs.set n v) := by
    intro vs xs n q
    induction q generalizing n with
    | nil => exact .nil
    | cons h t ih =>
      cases n with
      | zero => exact .cons (S.mono x2.ge r1) t
      | succ n => exact .cons h (ih n)
  exact hk σ _ _ ((s2.putL (xs := (g env).set n v) hL q1 (ps n pr)).sub hsub)
end
end Tx

/-! x, y, z = a, b, c -/
namespace Tx
open PySem PySem.Spec PyProof.Rows L2 Gx
theorem wb_none {c : Bc} {own : Own} {i : Nat} {a : Addr} (z : Wb c (putO own i none) a) : Wb c own a := z.imp id fun ⟨j, q⟩ => by
  by_cases h : j = i
  · subst h
    rw [putO_self] at q
    cases q
  · rw [putO_ne h] at q
    exact ⟨j, q⟩
section
variable {E α β γ ρ ι : Type} {X : ι → Cx} {K : PySem.W.Frag} {R : RetR ρ} {L L' : List (Sl E)} {S : Rp α} {T : Rp β} {U : Rp γ} {a b d : Expr} {pos : Pos} {wa : E → (α → Prop) → Prop} {wb : E → (List β → Prop) → Prop} {wd : E → (γ → Prop) → Prop}
theorem ts_parIOI {i j l : Nat} {x y z : Str} {px py pz pt : Pos} {kt k2 pt2} {set : E → α × List β × γ → E} (hc : ∀ k, (X k).calm = true) (hN : ∀ k, (X k).N.Nodup) (hi : ∀ k, (X k).N[i]? = some x) (hj : ∀ k, (X k).N[j]? = some y) (hl : ∀ k, (X k).N[l]? = some z) (hij : i ≠ j) (hil : i ≠ l) (hjl : j ≠ l)
    (hx : ∀ k, (X k).env.scope.names.lookup x = some .local) (hy : ∀ k, (X k).env.scope.names.lookup y = some .local) (hz : ∀ k, (X k).env.scope.names.lookup z = some .local) (ha : TX X K L S a wa) (hb : TN X K L T b wb) (hd : TX X K L U d wd) (ok1 : okI L i = true) (ok2 : okI L j = true) (ok3 : okI L l = true)
    (hsub : Sub (fun e : E × (α × List β × γ) => set e.1 e.2) ((((lift (α × List β × γ) L).set i (.im S fun e => e.2.1)).set j (.ow T fun e => e.2.2.1)).set l (.im U fun e => e.2.2.2)) L')
    (hw : ∀ k, swappedStores [.Tuple [.Name x px, .Name y py, .Name z pz] kt pt] (.Tuple [a, b, d] k2 pt2) (X k).env = pure (some [x, y, z]))
    (hs : ∀ k, swapsWithSole [.Tuple [.Name x px, .Name y py, .Name z pz] kt pt] (.Tuple [a, b, d] k2 pt2) pos.line (X k).env = pure false := by intro _; rfl)
    (h1 : ∀ k, starEach [a, b, d] (X k).env = (false, eval a (X k).env) :: starEach [b, d] (X k).env := by intro _; rfl) (h2 : ∀ k, starEach [b, d] (X k).env = (false, eval b (X k).env) :: starEach [d] (X k).env := by intro _; rfl) (h3 : ∀ k, starEach [d] (X k).env = (false, eval d (X k).env) :: starEach [] (X k).env := by intro _; rfl) :
    TS1 X K R L L' (.Assign [.Tuple [.Name x px, .Name y py, .Name z pz] kt pt] (.Tuple [a, b, d] k2 pt2) pos) (fun env k => wa env fun u => wb env fun v => wd env fun q => k.nx (set env (u, v, q))) := by
  obtain ⟨t1, p1, f1⟩ := ha.ex
  obtain ⟨t2, p2, f2⟩ := hb.ex
  obtain ⟨t3, p3, f3⟩ := hd.ex
  refine ⟨fun e k k' hn _ hw => ha.mono _ _ _ (fun x hx => hb.mono _ _ _ (fun y hy => hd.mono _ _ _ (fun z hz => hn _ hz) hy) hx) hw, _, fun k => ps_par3 (hc k) (hN k) (hi k) (hj k) (hl k) hij hil hjl (hx k) (hy k) (hz k) (pa_cons (p1 k) (pa_cons (p2 k) (pa_cons (p3 k) pa_nil (h3 k)) (h2 k)) (h1 k)) (hw k) (hs k), fun c σ H env own D s hw => ?_⟩
  refine f1 c σ H env own _ s (ha.mono _ _ _ (fun u hu v1 H1 x1 r1 => ?_) hw)
  have s1 := s.ex x1
  refine f2 c σ H1 env own _ s1 (hb.mono _ _ _ (fun v hv m vs H2 n2 x2 e2 r2 => ?_) hu)
  refine f3 (withD c m) σ H2 env own _ (s1.withE n2 x2 e2) (hd.mono _ _ _ (fun q hq v3 H3 x3 r3 => ?_) hv)
  refine ⟨v1, .ref m, v3, rfl, ?_⟩
  have o1 := okI_lift (α := α × List β × γ) ok1
  have o2 := okI_lift (α := α × List β × γ) ok2
  have o3 := okI_lift (α := α × List β × γ) ok3
  have sI := (s1.lift (u, v, q)).setI o1 S (fun e => e.2.1) r1
  have c1 : ∀ a, Sr ((lift (α × List β × γ) L).set i (.im S fun e => e.2.1)) (putO own i none) a ↔ Sr L own a := fun a => (Sr.setI o1 a).trans Sr.lift
  have sO := sI.setO (x2.cong c1) (okI_set rfl o2) T (fun e => e.2.2.1) n2 e2 (T.pmono (Ge.less fun a z => z.imp wb_none id) r2)
  have s4 := sO.ex (x3.cong fun a => (Sr.setO (okI_set rfl o2) a).trans (c1 a))
  have hU : U.r K (Wb c (putO (putO own i none) j (some m))) H3 v3 q := U.mono (Ge.less fun a z => by
    rcases z with z | ⟨k, w⟩
    · exact .inl (.inl z)
    · by_cases h : k = j
      · subst h
        rw [putO_self] at w
        exact .inl (.inr (Option.some.inj w).symm)
      · rw [putO_ne h] at w
        rcases wb_none (c := c) (.inr ⟨k, w⟩) with z | z
        · exact .inl (.inl z)
        · exact .inr z) r3
  exact hq _ _ _ ((s4.setI (okI_set rfl (okI_set rfl o3)) U (fun e => e.2.2.2) hU).sub hsub)
end
end Tx

/-! dicts with nested keys: walked while locked, read while locked, a key written again -/
namespace Gx
open PySem PySem.Spec PyProof.Rows L2
/-- the keys of the locked dict at d, in their order -/
def ItNd (P : Program) (w : World) (d : Addr) (o : Obj) (kvs : List NDv) : It :=
  ⟨fun i H => H d = some (.frz o (ndO P w d kvs)) ∧ i < kvs.length, fun i H x H' => H' = H ∧ ∃ p, kvs[i]? = some p ∧ x = .ref p.2.1, fun i H => H d = some (.frz o (ndO P w d kvs)) ∧ kvs.length ≤ i⟩
def NdY (kvs : List NDv) : Nat → Hp → V → Hp → Prop := fun i H x H' => H' = H ∧ ∃ p, kvs[i]? = some p ∧ x = .ref p.2.1
theorem walk_nd {P : Program} {w : World} {d : Addr} {o : Obj} {kvs : List NDv} : Walk (ItNd P w d o kvs) kvs.length (fun H => H d = some (.frz o (ndO P w d kvs))) (NdY kvs) :=
  ⟨fun _ _ hi q => ⟨q, hi⟩, fun _ q => ⟨q, Nat.le_refl _⟩, fun _ _ _ _ _ _ y => y⟩
section
variable {X : Cx} {pins : List (Addr × Obj)} {σ : L2.St} {H : Hp} {s : Shared}
theorem frzN (I : Inv X pins σ H s) {d : Addr} {o : Obj} {kvs : List NDv} (hd : H d = some (.frz o (ndO X.prog X.w d kvs))) :
    (d == sysModules) = false ∧ s.heap.get? d = some o ∧ o.ExactDict ∧ ∃ xs : List (NestedKey × Addr × Value), Paired NDr kvs xs ∧ (xs.map (·.1)).Nodup ∧ ∃ es ep, o.data = .dict es ep ∧ es.toList = xs.map (entryOfKey (nestedKind X.prog X.w)) := by
  obtain ⟨e, h, _⟩ := I.hok d _ hd
  obtain ⟨a, b, xs, p, nd, o', es, ep, e', x1, x2, x3⟩ := h
  rw [e] at e'
  cases e'
  exact ⟨b, e, x1, xs, p, nd, es, ep, x2, x3⟩
end
theorem turn_nd {P : Program} {w : World} {K : PySem.W.Frag} {tg : Expr} {d : Addr} {o : Obj} {es : Array DictEntry} {ep : Nat} {kvs : List NDv} (it : Addr) (hod : o.data = .dict es ep) : Turn P w K tg (ItNd P w d o kvs) [it] it (fun i h => h.IsKeyIter it d i kvs.length ep) where
  mem := by simp
  obj := fun i h st b hb => by
    have e : b = it := by simpa using hb
    subst e
    obtain ⟨oi, e, c, dd⟩ := st
    exact ⟨oi, e, fun v z => by rw [dd] at z; cases z⟩
  keep := fun i h h' st k => st.at fun oi e => k it (by simp) oi e
  item := by
    intro X hP hw hK hc i pins s σ H E I hf st hg
    subst hP hw hK
    obtain ⟨hd, hi⟩ := hg
    obtain ⟨f0, f1, f2, f3, f4, f5⟩ := hf it (by simp)
    obtain ⟨hs, hgd, hx, xs, p, nd, es', ep', hdt, ent⟩ := frzN I hd
    obtain ⟨rfl, rfl⟩ := dict_ep hod hdt
    have len := Paired.length p
    have ek : kvs[i]? = some kvs[i] := List.getElem?_eq_getElem hi
    obtain ⟨y, hy, e1, e2, _⟩ := Paired.at2 p ek
    have sz : es'.size = kvs.length := by
      rw [← Array.length_toList, ent, List.length_map]
      omega
    have hen : es'[i]? = some (entryOfKey (nestedKind X.prog X.w) y) := by
      rw [← Array.getElem?_toList, ent, List.getElem?_map, hy]
      rfl
    refine next_key_item st hgd hdt sz hen fun h' st' sb => ?_
    have I1 : Inv X pins σ H { s with heap := h' } := I.turned (t' := s.toks) (fun b ob hb e => (sb.2 b hb).trans e) f0 f1 f3 f4 f5
    obtain ⟨oi, e, c, dd⟩ := id st'
    refine ⟨.ref y.2.1, rfl, go_of (s := { s with heap := h' }) e c dd (by decide) ⟨.ref y.2.1, H, I1, rfl, ⟨rfl, _, ek, by rw [e2]⟩, st', fun b hb => (hf b hb).1⟩⟩
  done := by
    intro X hP hw hK hc i pins s σ H E I hf st hg
    subst hP hw hK
    obtain ⟨hd, hi⟩ := hg
    obtain ⟨f0, f1, f2, f3, f4, f5⟩ := hf it (by simp)
    obtain ⟨hs, hgd, hx, xs, p, nd, es', ep', hdt, ent⟩ := frzN I hd
    obtain ⟨rfl, rfl⟩ := dict_ep hod hdt
    have len := Paired.length p
    have sz : es'.size = kvs.length := by
      rw [← Array.length_toList, ent, List.length_map]
      omega
    exact next_key_end (I.ok.hd hc) st hgd hdt sz hi fun h' eb => ⟨rfl, I.turned (t' := s.toks) (fun b ob hb e => eb b ob hb e) f0 f1 f3 f4 f5⟩
  self := fun A i s Q E st h => by
    refine wpAny_pyIter_slot st.typeIs F.slot_dict_keyiterator_iter (wpAny_call_entry F.slot_dict_keyiterator_iter st.typeIs F.entry_dict_keyiterator_iter ?_ (F.args_dict_keyiterator_iter_1 _))
    show wpAny _ _ (ret (.ref it)) _ _ s
    exact wpAny_pure ⟨_, rfl, "dict_keyiterator", _, st.typeIs, F.slot_dict_keyiterator_next.lookup, h⟩
/-- for k in d, d locked -/
def iKeysN (P : Program) (w : World) (td : TE) : TI := fun σ H R => td σ H fun x H1 => ∃ d o kvs, x = .ref d ∧ H1 d = some (.frz o (ndO P w d kvs)) ∧ R (ItNd P w d o kvs) H1
theorem pi_keysN {X : Cx} {tg e : Expr} {td : TE} (he : PE X e td) : PI X tg e (iKeysN X.prog X.w td) := by
  refine ⟨fun pins s σ H R I h => ?_⟩
  refine thn (he.run pins s σ H _ I h) fun u s1 ⟨x, H1, I1, rx, d, o, kvs, ex, hd, q⟩ => ?_
  subst ex
  obtain rfl : u = Value.ref d := rx
  obtain ⟨hs, hgd, hx, xs, p, nd, es, ep, hdt, ent⟩ := frzN I1 hd
  have len := Paired.length p
  have sz : es.size = kvs.length := by
    rw [← Array.length_toList, ent, List.length_map]
    omega
  refine iter_keys hs hgd hx hdt (pi_one (tk := s1.toks) I1 _ (turn_nd _ hdt) ⟨_, Heap.get?_push_size _ rfl, rfl, ?_⟩ q)
  rw [sz] <;> rfl
section
variable {X : Cx}
/-- d[k], k there, d locked or not -/
def rIxNL (P : Program) (w : World) (K : PySem.W.Frag) : R2 := fun x y H Q => ∃ d a kvs k v, x = .ref d ∧ y = .ref a ∧ (H d = some (ndO P w d kvs) ∨ ∃ o, H d = some (.frz o (ndO P w d kvs))) ∧ NDk K H kvs ∧ NK K H (.ref a) k ∧ k.depth ≤ 8 ∧ ndGet kvs k = some v ∧ Q v H
theorem nd_keyedL {pins : List (Addr × Obj)} {σ : L2.St} {H : Hp} {s : Shared} (I : Inv X pins σ H s) {d : Addr} {kvs : List NDv} (hd : H d = some (ndO X.prog X.w d kvs) ∨ ∃ o, H d = some (.frz o (ndO X.prog X.w d kvs))) (hk : NDk X.K H kvs) :
    (d == sysModules) = false ∧ kvs.length ≤ sizeLine ∧ ∃ xs : List (NestedKey × Addr × Value), Paired NDr kvs xs ∧ s.heap.DictKeyed (nestedKind X.prog X.w) d (pairsH xs) := by
  have h : ndP X.prog X.w d kvs s.heap := by
    rcases hd with hd | ⟨o, hd⟩
    · exact (I.hok d _ hd).1
    · exact (I.hok d _ hd).2.1
  obtain ⟨a, b, xs, p, nd, o, es, ep, e, x1, x2, x3⟩ := h
  refine ⟨b, a, xs, p, xs, ⟨o, es, ep, e, x1, x2, x3, fun x hx => ?_, nd⟩, rfl⟩
  obtain ⟨i, hi, ei⟩ := List.mem_iff_getElem.mp hx
  have len := Paired.length p
  obtain ⟨y, hy, e1, e2, _⟩ := Paired.at2 (i := i) (x := kvs[i]'(by omega)) p (List.getElem?_eq_getElem (by omega))
  rw [List.getElem?_eq_getElem hi, ei] at hy
  cases hy
  obtain ⟨q1, q2⟩ := hk _ (List.getElem_mem (show i < kvs.length by omega))
  rw [e1, e2] at q1
  rw [e1] at q2
  exact ⟨NK.is I q1 rfl, q2⟩
theorem ix_ndL (hu : X.A.units + 9 < cLine) : IxR X (rIxNL X.prog X.w X.K) := by
  intro value slice pins s σ H x y v u Q I rx ry h hs
  obtain ⟨d, a, kvs, k, z, rfl, rfl, hd, hk, na, dp, ev, q⟩ := h
  cases rx
  cases ry
  obtain ⟨ns, _, xs, p, dk⟩ := nd_keyedL I hd hk
  rcases nd_val p k with ⟨e1, _⟩ | ⟨v', u, e1, e2, r⟩
  · rw [ev] at e1
    cases e1
  · rw [ev] at e1
    cases e1
    refine tail_any (T := "dict") dk.typeIs rfl ?_ hs
    exact getItem_keyed (knd := nestedKind X.prog X.w) (by show X.A.units + 1 + 8 < cLine; omega) ⟨NK.is I na rfl, dp⟩ dk e2 ⟨z, H, I.tok _, r, q⟩
/-- what is behind d[k] = v: a new key at the end, or the old one's value changed -/
def putN (kvs : List NDv) (k : NestedKey) (a : Addr) (v : V) : List NDv := if (ndGet kvs k).isSome then kvs.map fun p => if p.1 = k then (p.1, p.2.1, v) else p else kvs ++ [(k, a, v)]
/-- d[k] = v -/
def rPutN (P : Program) (w : World) (K : PySem.W.Frag) : TSet := fun o i v H Q => ∃ d a kvs k, o = .ref d ∧ i = .ref a ∧ H d = some (ndO P w d kvs) ∧ NDk K H kvs ∧ NK K H (.ref a) k ∧ k.depth ≤ 8 ∧ kvs.length < sizeLine ∧ Q (upd H d (ndO P w d (putN kvs k a v)))
end
end Gx
namespace Gx
open PySem PySem.Spec PyProof.Rows L2
theorem nd_some {kvs : List NDv} {xs : List (NestedKey × Addr × Value)} (p : Paired NDr kvs xs) {k : NestedKey} : (ndGet kvs k).isSome = (atKey xs k).isSome := by
  induction p with
  | nil => rfl
  | @cons a b as bs r t ih =>
    by_cases c : a.1 = k
    · have c' : b.1 = k := by rw [← r.1]; exact c
      unfold ndGet atKey
      rw [List.find?_cons_of_pos (by simpa using c), List.find?_cons_of_pos (by simpa using c')]
      rfl
    · have c' : ¬ b.1 = k := by rw [← r.1]; exact c
      unfold ndGet atKey at ih ⊢
      rw [List.find?_cons_of_neg (by simpa using c), List.find?_cons_of_neg (by simpa using c')]
      exact ih
theorem put_pair {kvs : List NDv} {xs : List (NestedKey × Addr × Value)} (p : Paired NDr kvs xs) {k : NestedKey} {a : Addr} {v : V} {u : Value} (rv : RelV v u) : Paired NDr (putN kvs k a v) (storedH xs k a u) := by
  unfold putN storedH
  rw [nd_some p]
  by_cases c : (atKey xs k).isSome = true
  · rw [if_pos c, if_pos c]
    clear c
    induction p with
    | nil => exact .nil
    | @cons x y as bs r t ih =>
      refine .cons ?_ ih
      by_cases c : x.1 = k
      · have c' : y.1 = k := by rw [← r.1]; exact c
        unfold putAt
        dsimp only
        rw [if_pos c, if_pos c']
        exact ⟨r.1, r.2.1, rv⟩
      · have c' : ¬ y.1 = k := by rw [← r.1]; exact c
        unfold putAt
        dsimp only
        rw [if_neg c, if_neg c']
        exact r
  · rw [if_neg c, if_neg c]
    clear c
    induction p with
    | nil => exact .cons ⟨rfl, rfl, rv⟩ .nil
    | cons r t ih => exact .cons r ih
section
variable {X : Cx}
theorem put_nd (hu : X.A.units + 9 < cLine) : PSet X (rPutN X.prog X.w X.K) := by
  intro pins s σ H o i v ov iv u Q I ro ri rv h
  obtain ⟨d, a, kvs, k, rfl, rfl, hd, hk, na, dp, sz, q⟩ := h
  cases ro
  cases ri
  obtain ⟨ns, le, xs, p, dk⟩ := nd_heap I hd hk
  have xl := Paired.length p
  refine wpAny_setItem_heap (knd := nestedKind X.prog X.w) (by show X.A.units + 1 + 8 < cLine; omega) ⟨NK.is I na rfl, dp⟩ dk (fun h' dk' sb => ?_) (by omega)
  have pp := put_pair (k := k) (a := a) p rv
  refine ⟨_, I.write (x := d) (e := d) (o := ndO X.prog X.w d (putN kvs k a v)) (by rw [hd]; trivial) (.inl rfl) (fun b o n e => ?_) ?_ (ndP.ok ?_), q⟩
  · rw [sb.2 b n]
    exact e
  · obtain ⟨o, es, ep, e, _⟩ := dk'
    exact ⟨o, e⟩
  · obtain ⟨o, es, ep, e, x1, x2, x3, x4, x5⟩ := dk'
    refine ⟨?_, ns, storedH xs k a u, pp, x5, o, es, ep, e, x1, x2, x3⟩
    unfold putN
    split
    · rw [List.length_map]
      exact le
    · rw [List.length_append, List.length_singleton]
      omega
end
end Gx

/-! one's own dict walked, read while it is walked, written again -/
namespace Tx
open PySem PySem.Spec PyProof.Rows L2 Gx
theorem ps_exz {X : Cx} {st : Stmt} {Z : Type} {t : Z → L2.TS} (h : ∀ z, PS X st (t z)) : PS X st (fun D σ H => ∃ z, t z D σ H) := ⟨fun pins s σ H D I ⟨z, hw⟩ => (h z).run pins s σ H D I hw⟩
/-- a dict that stays, locked -/
def fdR {κ β : Type} (P : Program) (w : World) (SK : Rp κ) (kf : κ → NestedKey) (S : Rp β) : Rp (List (κ × β)) := ⟨fun K W H v xs => ∃ d ob kvs, v = .ref d ∧ ¬ W d ∧ H d = some (.frz ob (ndO P w d kvs)) ∧ Paired (NDp K W H SK kf S) kvs xs,
  fun g ⟨d, ob, kvs, e, n, h, p⟩ => ⟨d, ob, kvs, e, (g _ _ n h).1, (g _ _ n h).2, Paired.imp2 (fun _ _ ⟨a, b, c⟩ => ⟨a, SK.mono g b, S.mono g c⟩) p⟩⟩
theorem ps_frz {X : Cx} {st : Stmt} {t : L2.TS} (h : PS X st t) : PS X st (fun D σ H => ∃ d u, H d = some u ∧ Mut (some u) ∧ ∀ od, t D σ (upd H d (.frz od u))) := ⟨fun pins s σ H D I ⟨d, u, hd, mu, hw⟩ => by
  obtain ⟨od, I1⟩ := I.lock hd mu
  exact h.run pins s σ _ D I1 (hw od)⟩
section
variable {E κ β : Type} {K : PySem.W.Frag} {c : Bc} {L : List (Sl E)} {σ : L2.St} {H : Hp} {e : E} {own : Own} {P : Program} {w : World} {SK : Rp κ} {kf : κ → NestedKey} {S : Rp β} {g : E → List (κ × β)}
def noOwn (own : Own) (i : Nat) : Own := fun j => if j = i then none else own j
/-- an own dict is locked, and stays so -/
theorem St.frzD (s : St K c L σ H e own) {i : Nat} (hL : L[i]? = some (.ox (ndR P w SK kf S) g)) {d : Addr} (ho : own i = some d) {u : HO} (hu : H d = some u) (ob : Obj) : St K c (L.set i (.im (fdR P w SK kf S) g)) σ (upd H d (.frz ob u)) e (noOwn own i) := by
  have il : i < L.length := (List.getElem?_eq_some_iff.mp hL).1
  obtain ⟨d0, o, h1, h2, h3, h4, kvs, rfl, pr⟩ := s.slot i _ hL
  rw [ho] at h1
  cases h1
  rw [h4] at hu
  cases hu
  have wd : Wb c own d := .inr ⟨i, ho⟩
  have sub : ∀ a, Wb c (noOwn own i) a → Wb c own a := by
    rintro a (z | ⟨j, z⟩)
    · exact .inl z
    · unfold noOwn at z
      split at z
      · cases z
      · exact .inr ⟨j, z⟩
  have nd : ¬ Wb c (noOwn own i) d := by
    rintro (z | ⟨j, z⟩)
    · exact h3.2 z
    · unfold noOwn at z
      split at z
      · cases z
      · rename_i n
        exact n (s.inj j i d z ho)
  have ge : Ge (Wb c own) H (Wb c (noOwn own i)) (upd H d (.frz ob (ndO P w d kvs))) := fun b u nb hb => ⟨fun z => nb (sub b z), by rw [upd_ne (fun z => nb (by rw [z]; exact wd))]; exact hb⟩
  have other : ∀ j, j ≠ i → noOwn own i j = own j := fun j n => if_neg n
  refine ⟨by simp [s.len], fun b u nb hb => ?_, fun b hb => ?_, s.bw, fun b hb => ?_, fun j k a hj hk => ?_, fun j hj => ?_, fun j sl' hj => ?_⟩
  · rw [upd_ne (fun z => by rw [z, h3.1] at hb; cases hb)]
    exact s.stay b u nb hb
  · rw [upd_ne (fun z => h3.2 (by rw [← z]; exact hb))]
    exact s.dom b hb
  · obtain ⟨j, q1, q2⟩ := s.bs b hb
    have ne : j ≠ i := fun z => by
      subst z
      rw [hL] at q1
      cases q1
    exact ⟨j, by rw [List.getElem?_set_ne (Ne.symm ne)]; exact q1, by rw [other j ne]; exact q2⟩
  · unfold noOwn at hj hk
    split at hj
    · cases hj
    · split at hk
      · cases hk
      · exact s.inj j k a hj hk
  · by_cases h : j = i
    · unfold noOwn
      rw [if_pos h]
    · rw [other j h]
      rw [List.getElem?_set_ne (Ne.symm h)] at hj
      exact s.out j hj
  · by_cases h : j = i
    · subst h
      rw [List.getElem?_set_self il] at hj
      cases hj
      exact ⟨if_pos rfl, .ref d, h2, d, ob, kvs, rfl, nd, upd_same, Paired.imp2 (fun _ _ ⟨a, b, c⟩ => ⟨a, SK.mono ge b, S.mono ge c⟩) pr⟩
    · rw [List.getElem?_set_ne (Ne.symm h)] at hj
      have q := s.slot j sl' hj
      rw [other j h]
      cases sl' with
      | any => exact q
      | im S' g' =>
        obtain ⟨q1, v', q2, q3⟩ := q
        exact ⟨q1, v', q2, S'.mono ge q3⟩
      | ow S' g' =>
        obtain ⟨b, ws, q1, q2, q3, q4, q5⟩ := q
        exact ⟨b, ws, q1, q2, q3, by rw [upd_ne (fun z => h (s.inj j i d (by rw [← z]; exact q1) ho))]; exact q4, S'.pmono ge q5⟩
      | ox R' g' =>
        obtain ⟨b, ws, q1, q2, q3, q4, q5⟩ := q
        exact ⟨b, ws, q1, q2, q3, by rw [upd_ne (fun z => h (s.inj j i d (by rw [← z]; exact q1) ho))]; exact q4, R'.mono ge q5⟩
      | sr =>
        obtain ⟨p, q1, q2, q3, x, y, q4, q5⟩ := q
        exact ⟨p, q1, q2, q3, x, y, by rw [upd_ne (fun z => h (s.inj j i d (by rw [← z]; exact q1) ho))]; exact q4, q5⟩
end
section
variable {E κ β ρ ι : Type} {X : ι → Cx} {K : PySem.W.Frag} {R : RetR ρ} {L L' L1 : List (Sl E)} {SK : Rp κ} {S : Rp β} {kf : κ → NestedKey} {P : Program} {w : World} {g : E → List (κ × β)}
/-- an own dict is locked from here on -/
theorem TS1.preD {i : Nat} {st : Stmt} {wst : E → Kn E ρ → Prop} (hL : L[i]? = some (.ox (ndR P w SK kf S) g)) (h1 : L.set i (.im (fdR P w SK kf S) g) = L1) (h : TS1 X K R L1 L' st wst) : TS1 X K R L L' st wst := by
  subst h1
  obtain ⟨t, p, f⟩ := h.ex
  refine ⟨h.mono, _, fun j => ps_frz (p j), fun c σ H env own D s hw => ?_⟩
  obtain ⟨d, o, q1, q2, q3, q4, kvs, eo, _⟩ := s.slot i _ hL
  exact ⟨d, o, q4, by rw [eo]; trivial, fun od => f c σ _ env _ D (s.frzD hL q1 q4 od) hw⟩
variable {es tg : Expr} {a : Expr} {pos : Pos} {we : E → (List (κ × β) → Prop) → Prop} {wa : E → (κ → Prop) → Prop}
/-- the keys of such a dict -/
theorem it_fd (hP : ∀ j, (X j).prog = P ∧ (X j).w = w) (h : TX X K L (fdR P w SK kf S) es we) : TIt X K L SK tg es (fun env k => we env fun xs => k (xs.map Prod.fst)) := by
  obtain ⟨t, pe, f⟩ := h.ex
  refine ⟨fun e k k' hk hw => h.mono _ _ _ (fun xs hx => hk _ hx) hw, _, fun j => by
    have q := pi_keysN (tg := tg) (pe j)
    rw [(hP j).1, (hP j).2] at q
    exact q, fun c σ H env own Q s hw => f c σ H env own _ s (h.mono _ _ _ (fun xs hx v H1 x1 r => ?_) hw)⟩
  obtain ⟨d, ob, kvs, rfl, nw, e1, pr⟩ := r
  have ll := Paired.length pr
  refine ⟨d, ob, kvs, rfl, e1, hx _ H1 (fun H => H d = some (.frz ob (ndO P w d kvs))) (NdY kvs) x1 ?_ ⟨fun W' H2 g => (g _ _ nw e1).2, fun W' H2 H3 i v g fr hi y => ?_⟩⟩
  · rw [List.length_map, ← ll]
    exact walk_nd
  · obtain ⟨rfl, q, eq, rfl⟩ := y
    obtain ⟨kb, hkb, n1, n2, n3⟩ := Paired.at2 pr eq
    exact ⟨Same.refl _, kb.1, by rw [List.getElem?_map, hkb]; rfl, SK.mono g n2⟩
variable [DecidableEq κ]
/-- d[k], such a dict -/
theorem tx_fdix (kr : KR K SK kf) (hP : ∀ j, (X j).prog = P ∧ (X j).w = w ∧ (X j).K = K) (hu : ∀ j, (X j).A.units + 9 < cLine) (hd : TX X K L (fdR P w SK kf S) es we) (ha : TX X K L SK a wa) (hs : PlainIx a) : TX X K L S (.Subscript es a pos) (fun env k => we env fun xs => wa env fun y => ∃ z, getK xs y = some z ∧ k z) := by
  obtain ⟨t1, p1, f1⟩ := hd.ex
  obtain ⟨t2, p2, f2⟩ := ha.ex
  have ix : ∀ j, IxR (X j) (rIxNL P w K) := fun j => by
    have z := ix_ndL (hu j)
    rw [(hP j).1, (hP j).2.1, (hP j).2.2] at z
    exact z
  refine ⟨fun e k k' h hw => hd.mono _ _ _ (fun xs hx => ha.mono _ _ _ (fun y ⟨z, h1, h2⟩ => ⟨z, h1, h _ h2⟩) hx) hw, _, fun j => pe_ix (ix j) (p1 j) (p2 j) hs, fun c σ H env own Q s hw => ?_⟩
  refine f1 c σ H env own _ s (hd.mono _ _ _ (fun xs hx v1 H1 x1 r1 => ?_) hw)
  refine f2 c σ H1 env own _ (s.ex x1) (ha.mono _ _ _ (fun y ⟨z, gz, hz⟩ v2 H2 x2 r2 => ?_) hx)
  obtain ⟨d, ob, kvs, rfl, nw, e1, pr⟩ := (fdR P w SK kf S).mono x2.ge r1
  obtain ⟨ad, rfl, nk⟩ := kr.nk r2
  rcases NDp.get kr pr y with ⟨_, e2⟩ | ⟨v, u, e1', e2, rv⟩
  · rw [gz] at e2
    cases e2
  · rw [gz] at e2
    cases e2
    exact ⟨d, ad, kvs, kf y, v, rfl, rfl, .inr ⟨ob, e1⟩, NDp.keys kr pr, nk, kr.dp y, e1', hz v H2 (x1.trans x2) rv⟩
/-- what a table holds behind t[k] = v -/
def setK {κ β : Type} [DecidableEq κ] (xs : List (κ × β)) (k : κ) (v : β) : List (κ × β) := if (getK xs k).isSome then xs.map fun p => if p.1 = k then (p.1, v) else p else xs ++ [(k, v)]
theorem NDp.put {W : WS} {H : Hp} (kr : KR K SK kf) {kvs : List NDv} {xs : List (κ × β)} (p : Paired (NDp K W H SK kf S) kvs xs) {k : κ} {a : Addr} {v : V} {u : β} (rk : SK.r K W H (.ref a) k) (rv : S.r K W H v u) : Paired (NDp K W H SK kf S) (putN kvs (kf k) a v) (setK xs k u) := by
  have sm : (ndGet kvs (kf k)).isSome = (getK xs k).isSome := by
    rcases NDp.get kr p k with ⟨e1, e2⟩ | ⟨v, u, e1, e2, _⟩ <;> rw [e1, e2] <;> rfl
  unfold putN setK
  rw [sm]
  by_cases c : (getK xs k).isSome = true
  · rw [if_pos c, if_pos c]
    clear c sm
    induction p with
    | nil => exact .nil
    | @cons x y as bs r t ih =>
      refine .cons ?_ ih
      by_cases c : y.1 = k
      · have c' : x.1 = kf k := by rw [r.1, c]
        dsimp only
        rw [if_pos c', if_pos c]
        exact ⟨r.1, r.2.1, rv⟩
      · have c' : ¬ x.1 = kf k := fun z => c (kr.inj (r.1.symm.trans z))
        dsimp only
        rw [if_neg c', if_neg c]
        exact r
  · rw [if_neg c, if_neg c]
    exact Paired.snoc p ⟨rfl, rk, rv⟩
/-- d[k] = e, k new or not -/
theorem ts_putD2 {e : Expr} {x : Str} {p : Pos} {i : Nat} {set : E → List (κ × β) → E} {we : E → (β → Prop) → Prop} {p2 : Pos} (kr : KR K SK kf) (hL : L[i]? = some (.ox (ndR P w SK kf S) g)) (hN : ∀ j, (X j).N[i]? = some x) (hv : ∀ j, Vis (X j).env.scope x) (hP : ∀ j, (X j).prog = P ∧ (X j).w = w ∧ (X j).K = K) (hu : ∀ j, (X j).A.units + 9 < cLine) (he : TX X K L S e we) (ha : TX X K L SK a wa)
    (hsub : Sub (fun e : E × List (κ × β) => set e.1 e.2) ((lift (List (κ × β)) L).set i (.ox (ndR P w SK kf S) Prod.snd)) L')
    (has : ∀ j v, assign (.Subscript (.Name x p) a p2) (X j).env v = (do
      let ov ← holding [v] (eval (.Name x p) (X j).env)
      let iv ← holding [v, ov] (eval a (X j).env)
      standAt p2
      holding [v, ov, iv] (setItem ov iv v)
      release [v, ov, iv] []) := by intro _ _; rfl)
    (hss : ∀ j, swapsWithSole [.Subscript (.Name x p) a p2] e pos.line (X j).env = pure false := by intro _; rfl) (hsw : ∀ j, swappedStores [.Subscript (.Name x p) a p2] e (X j).env = pure none := by intro _; rfl)
    (h1 : ∀ j, (assignEach [.Subscript (.Name x p) a p2] (X j).env).map (·.2) = [assign (.Subscript (.Name x p) a p2) (X j).env] := by intro _; rfl)
    (hd : (x == ("__debug__" : Str)) = false := by decide) (hcd : (x == ("__classdict__" : Str)) = false := by decide) :
    TS1 X K R L L' (.Assign [.Subscript (.Name x p) a p2] e pos) (fun env k => we env fun v => wa env fun y => (g env).length < sizeLine ∧ k.nx (set env (setK (g env) y v))) := by
  obtain ⟨t1, p1, f1⟩ := he.ex
  obtain ⟨t2, p2, f2⟩ := ha.ex
  have put : ∀ j, PSet (X j) (rPutN P w K) := fun j => by
    have z := put_nd (hu j)
    rw [(hP j).1, (hP j).2.1, (hP j).2.2] at z
    exact z
  refine ⟨fun e k k' hn _ hw => he.mono _ _ _ (fun v hv => ha.mono _ _ _ (fun y ⟨h2, h3⟩ => ⟨h2, hn _ h3⟩) hv) hw, _, fun j => ps_asg (p1 j) (pg_sub (pe_var (hN j) (hv j) hd hcd) (p2 j) (put j) (has j)) (hss j) (hsw j) (h1 j), fun c σ H env own D s hw => ?_⟩
  refine f1 c σ H env own _ s (he.mono _ _ _ (fun v hv v1 H1 x1 r1 => ?_) hw)
  have s1 := s.ex x1
  obtain ⟨d, o, q1, q2, q3, q4, _⟩ := s1.slot i _ hL
  refine ⟨.ref d, q2, f2 c σ H1 env own _ s1 (ha.mono _ _ _ (fun y ⟨sz, hk⟩ v2 H2 x2 r2 => ?_) hv)⟩
  have s2 := s1.ex x2
  obtain ⟨d', o', q1', q2', q3', q4', kvs, rfl, pr⟩ := s2.slot i _ hL
  rw [q1] at q1'
  cases q1'
  obtain ⟨ad, rfl, nk⟩ := kr.nk r2
  have len := Paired.length pr
  exact ⟨d, ad, kvs, kf y, rfl, rfl, q4', NDp.keys kr pr, nk, kr.dp y, by omega, hk σ _ _ ((s2.putX (x := setK (g env) y v) hL q1 ⟨_, rfl, NDp.put kr pr r2 (S.mono x2.ge r1)⟩).sub hsub)⟩
end
end Tx

/-! sorted, zip, an own dict under another name, a dict of one pair -/
namespace Tx
open PySem PySem.Spec PyProof.Rows L2 Gx
section
variable {K : PySem.W.Frag}
theorem ints_eq {W : WS} {H : Hp} : ∀ {vs : List V} {xs : List Int}, Paired (intR.r K W H) vs xs → vs = xs.map V.int
  | _, _, .nil => rfl
  | _, _, .cons a t => by rw [List.map_cons, ← ints_eq t]; congr 1
theorem ints_pr {W : WS} {H : Hp} : ∀ xs : List Int, Paired (intR.r K W H) (xs.map V.int) xs
  | [] => .nil
  | x :: xs => .cons rfl (ints_pr xs)
theorem vc_sorted : VCN K (.cons (lstR intR) .nil) intR (rSortedI K) (fun x k => ∀ ns : List Int, ns.Perm x.1 → ns.Pairwise (· ≤ ·) → k ns) := ⟨fun x k k' h h2 => fun ns a b => h _ (h2 ns a b), fun W H x vs Q fr ⟨v, us, e, ⟨a, ws, e2, n, h, p⟩, e3⟩ q => by
  subst e e2
  rw [show us = [] from e3]
  have ew := ints_eq p
  subst ew
  exact ⟨a, x.1, rfl, SqL.of h, fun ns l pm pw hl => q ns pm pw l _ _ hl (Same.new hl) upd_same (ints_pr ns)⟩⟩
end
section
variable {E τ β ι : Type} {X : ι → Cx} {K : PySem.W.Frag} {L : List (Sl E)} {A : Ar τ} {U : Rp β} {r : List V → Hp → VK → Prop} {x : Str} {p pos : Pos} {e : Expr} {es : List Expr} {wa : E → (τ → Prop) → Prop}
theorem tn_callB {id : String} {w : τ → (List β → Prop) → Prop} (hc : ∀ i, CallR (X i) (.builtin id) r) (hv : VCN K A U r w) (hg : ∀ i, Gl (X i) x) (hm : ∀ i, (X i).mg x = none) (hb : bootBuiltins x = some (.builtin id)) (ha : TA X K L A (e :: es) wa) (hn : x ≠ "__name__" := by decide) (hdb : (x == ("__debug__" : Str)) = false := by decide)
    (he : ∀ i, starEach (e :: es) (X i).env = (false, eval e (X i).env) :: starEach es (X i).env := by intro _; rfl) (hpl : ∀ i, (backTo pos (starEach es (X i).env)).any (·.1) = false := by intro _; rfl) : TN X K L U (.Call (.Name x p) (e :: es) [] pos) (fun env k => wa env fun y => w y k) := by
  obtain ⟨t, pt, h⟩ := ha.ex
  refine ⟨fun e k k' hk hw => ha.mono _ _ _ (fun x hx => hv.mono _ _ _ hk hx) hw, _, fun i => pe_callB (hc i) (hg i) (hm i) hb (pt i) hn hdb (he i) (hpl i), fun c σ H env own Q s hw => h c σ H env own _ s (ha.mono _ _ _ (fun y hy vs H1 x1 ok => ?_) hw)⟩
  have s1 := s.ex x1
  exact hv.run _ H1 y vs Q (fun l hl => s1.fresh hl) (ok.imp Ge.refl fun _ _ => trivial) (hv.mono _ _ _ (fun z hz l us H' n k' e' p' => hz l us H' (Ex.none s x1 n) (x1.trans (s1.exSame k')) e' p') hy)
end
section
variable {E α β ι : Type} {X : ι → Cx} {K : PySem.W.Frag} {L : List (Sl E)} {S : Rp α} {T : Rp β} {e e2 : Expr} {pos p : Pos} {wa : E → (List α → Prop) → Prop} {wb : E → (List β → Prop) → Prop}
theorem it_zip {es : List Expr} {kk : Nat} {tpos : Pos} {wab : E → (List α × List β × Unit → Prop) → Prop} (hg : ∀ j, Gl (X j) "zip") (hm : ∀ j, (X j).mg "zip" = none) (h : TA X K L (.cons (lstR S) (.cons (lstR T) .nil)) [e, e2] wab) (hK : ∀ j, (X j).K = K := by intro _; rfl)
    (hs : ∀ j, starEach [e, e2] (X j).env = (false, eval e (X j).env) :: starEach [e2] (X j).env := by intro _; rfl) (hpl : ∀ j, (backTo pos (starEach [e2] (X j).env)).any (·.1) = false := by intro _; rfl) :
    TIt X K L (prR S T) (.Tuple es kk tpos) (.Call (.Name "zip" p) [e, e2] [] pos) (fun env k => wab env fun q => k (q.1.zip q.2.1)) := by
  obtain ⟨t, pa, f⟩ := h.ex
  refine ⟨fun e k k' hk hw => h.mono _ _ _ (fun n hn => hk _ hn) hw, _, fun j => by
    have z := pi_zip (elts := es) (kk := kk) (tpos := tpos) (pos := pos) (p := p) (hg j) (hm j) (pa j) (hs j) (hpl j)
    rw [hK j] at z
    exact z, fun c σ H env own Q s hw => f c σ H env own _ s (h.mono _ _ _ (fun q hx vs H1 x1 ok => ?_) hw)⟩
  obtain ⟨v, us, rfl, ⟨a, xs, rfl, n, e1, p1⟩, v2, us2, rfl, ⟨b, ys, rfl, n2, e2, p2⟩, z⟩ := ok
  rw [show us2 = [] from z]
  have l1 := Paired.length p1
  have l2 := Paired.length p2
  refine ⟨a, b, xs, ys, rfl, SqL.of e1, SqL.of e2, hx _ H1 _ _ x1 (walk_zip (xs := xs) (ys := ys) (by rw [List.length_zip, ← l1, ← l2])) ⟨fun W' H2 g => ⟨SqL.of (g _ _ n e1).2, SqL.of (g _ _ n2 e2).2⟩, fun W' H2 H3 i v g fr hi y => ?_⟩⟩
  obtain ⟨T0, u, w, rfl, hT, rfl, hu, hw'⟩ := y
  obtain ⟨x, hx2, rx⟩ := Paired.at2 p1 hu
  obtain ⟨y, hy2, ry⟩ := Paired.at2 p2 hw'
  have ge : Ge (Wb c own) H1 W' (upd H2 T0 (.tup [u, w])) := g.trans (Ge.same (Same.new hT))
  refine ⟨Same.new hT, (x, y), ?_, T0, u, w, rfl, TW.of (fr T0 hT) upd_same, S.mono ge rx, T.mono ge ry⟩
  rw [List.getElem?_zip_eq_some]
  exact ⟨hx2, hy2⟩
end
section
variable {E : Type} {K : PySem.W.Frag} {c : Bc} {L : List (Sl E)} {σ : L2.St} {H : Hp} {e : E} {own : Own}
def mvOwn (own : Own) (i j : Nat) : Own := fun k => if k = i then own j else if k = j then none else own k
/-- an own object under another name -/
theorem St.moveX (s : St K c L σ H e own) {i j : Nat} {β : Type} {R : Ro β} {g : E → β} (hL : L[j]? = some (.ox R g)) (hi : okI L i = true) (ne : i ≠ j) {d : Addr} (ho : own j = some d) :
    St K c ((L.set j .any).set i (.ox R g)) (σ.set i (some (.ref d))) H e (mvOwn own i j) := by
  have jl : j < L.length := (List.getElem?_eq_some_iff.mp hL).1
  obtain ⟨s0, q0, n0⟩ := okI_ok hi
  have il : i < L.length := (List.getElem?_eq_some_iff.mp q0).1
  obtain ⟨d0, o, h1, h2, h3, h4, r⟩ := s.slot j _ hL
  rw [ho] at h1
  cases h1
  have sub : ∀ a, Wb c (mvOwn own i j) a → Wb c own a := by
    rintro a (z | ⟨k, z⟩)
    · exact .inl z
    · unfold mvOwn at z
      split at z
      · exact .inr ⟨j, z⟩
      · split at z
        · cases z
        · exact .inr ⟨k, z⟩
  have ge : Ge (Wb c own) H (Wb c (mvOwn own i j)) H := fun a u nb hb => ⟨fun z => nb (sub a z), hb⟩
  have oi : mvOwn own i j i = some d := by unfold mvOwn; rw [if_pos rfl, ho]
  have oj : mvOwn own i j j = none := by unfold mvOwn; rw [if_neg (Ne.symm ne), if_pos rfl]
  have ok : ∀ k, k ≠ i → k ≠ j → mvOwn own i j k = own k := fun k n1 n2 => by unfold mvOwn; rw [if_neg n1, if_neg n2]
  have back : ∀ k a, mvOwn own i j k = some a → (k = i ∧ a = d) ∨ (k ≠ i ∧ k ≠ j ∧ own k = some a) := fun k a h => by
    by_cases c1 : k = i
    · rw [c1, oi] at h
      cases h
      exact .inl ⟨c1, rfl⟩
    · by_cases c2 : k = j
      · rw [c2, oj] at h
        cases h
      · rw [ok k c1 c2] at h
        exact .inr ⟨c1, c2, h⟩
  refine ⟨by simp [s.len], s.stay, s.dom, s.bw, fun b hb => ?_, fun k l a hk hl => ?_, fun k hk => ?_, fun k sl' hk => ?_⟩
  · obtain ⟨k, q1, q2⟩ := s.bs b hb
    have n1 : k ≠ i := fun z => by
      subst z
      rw [q0] at q1
      cases q1
      exact n0 rfl
    have n2 : k ≠ j := fun z => by
      subst z
      rw [hL] at q1
      cases q1
    exact ⟨k, by rw [List.getElem?_set_ne (Ne.symm n1), List.getElem?_set_ne (Ne.symm n2)]; exact q1, by rw [ok k n1 n2]; exact q2⟩
  · rcases back k a hk with ⟨k1, k2⟩ | ⟨k1, k2, k3⟩ <;> rcases back l a hl with ⟨l1, l2⟩ | ⟨l1, l2, l3⟩
    · rw [k1, l1]
    · rw [k2] at l3
      exact absurd (s.inj l j d l3 ho) l2
    · rw [l2] at k3
      exact absurd (s.inj k j d k3 ho) k2
    · exact s.inj k l a k3 l3
  · have n1 : k ≠ i := fun z => by
      subst z
      rw [List.getElem?_eq_none_iff, List.length_set, List.length_set] at hk
      omega
    have n2 : k ≠ j := fun z => by
      subst z
      rw [List.getElem?_eq_none_iff, List.length_set, List.length_set] at hk
      omega
    rw [List.getElem?_set_ne (Ne.symm n1), List.getElem?_set_ne (Ne.symm n2)] at hk
    rw [ok k n1 n2]
    exact s.out k hk
  · by_cases c1 : k = i
    · subst c1
      rw [List.getElem?_set_self (by rw [List.length_set]; exact il)] at hk
      cases hk
      exact ⟨d, o, oi, by rw [List.getElem?_set_self (by rw [s.len]; exact il)], h3, h4, R.mono ge r⟩
    · rw [List.getElem?_set_ne (Ne.symm c1)] at hk
      rw [List.getElem?_set_ne (Ne.symm c1)]
      by_cases c2 : k = j
      · subst c2
        rw [List.getElem?_set_self jl] at hk
        cases hk
        exact oj
      · rw [List.getElem?_set_ne (Ne.symm c2)] at hk
        have q := s.slot k sl' hk
        rw [ok k c1 c2]
        cases sl' with
        | any => exact q
        | im S' g' =>
          obtain ⟨q1, v', q2, q3⟩ := q
          exact ⟨q1, v', q2, S'.mono ge q3⟩
        | ow S' g' =>
          obtain ⟨b, ws, q1, q2, q3, q4, q5⟩ := q
          exact ⟨b, ws, q1, q2, q3, q4, S'.pmono ge q5⟩
        | ox R' g' =>
          obtain ⟨b, ws, q1, q2, q3, q4, q5⟩ := q
          exact ⟨b, ws, q1, q2, q3, q4, R'.mono ge q5⟩
        | sr => exact q
end
section
variable {E ρ ι β : Type} {X : ι → Cx} {K : PySem.W.Frag} {R : RetR ρ} {L L' : List (Sl E)} {Ro' : Ro β} {g : E → β} {pos p q : Pos} {i j : Nat} {x y : Str}
/-- x = y, y one's own and not used under that name any more -/
theorem ts_moveX {set : E → β → E} (hL : L[j]? = some (.ox Ro' g)) (hok : okI L i = true) (ne : i ≠ j) (hN : ∀ k, (X k).N.Nodup) (hi : ∀ k, (X k).N[i]? = some x) (hx : ∀ k, Loc (X k).env.scope x) (hNj : ∀ k, (X k).N[j]? = some y) (hv : ∀ k, Vis (X k).env.scope y)
    (hsub : Sub (fun e : E => set e (g e)) ((L.set j .any).set i (.ox Ro' g)) L')
    (hs : ∀ k, swapsWith (.Name y q) (some (.Name x p)) pos.line (X k).env = pure false := by intro _; rfl) (hf : ∀ k, (X k).fn x = true ∨ (X k).env.scope.names.lookup x = some .local := by intro _; first | exact .inl rfl | exact .inr rfl | assumption)
    (hd : (y == ("__debug__" : Str)) = false := by decide) (hcd : (y == ("__classdict__" : Str)) = false := by decide) : TS1 X K R L L' (.Assign [.Name x p] (.Name y q) pos) (fun env k => k.nx (set env (g env))) := by
  refine ⟨fun e k k' hn _ hw => hn _ hw, _, fun k => ps_set (hN k) (hi k) (hx k) (pe_var (hNj k) (hv k) hd hcd) (hs k) (hf k), fun c σ H env own D s hw => ?_⟩
  obtain ⟨d, o, h1, h2, h3, h4, r⟩ := s.slot j _ hL
  exact ⟨.ref d, h2, hw _ H _ ((s.moveX hL hok ne h1).sub hsub)⟩
end
end Tx

/-! a dict of one pair -/
namespace Gx
open PySem PySem.Spec PyProof.Rows L2
def tDict1 (P : Program) (w : World) (K : PySem.W.Frag) (tk tv : TE) : TE := fun σ H Q => ∀ d, H d = none → tk σ (upd H d (ndO P w d [])) fun y H1 => tv σ H1 fun z H2 => ∃ a key, y = .ref a ∧ H2 d = some (ndO P w d []) ∧ NK K H2 (.ref a) key ∧ key.depth ≤ 8 ∧ Q (.ref d) (upd H2 d (ndO P w d [(key, a, z)]))
theorem pe_dict1 {X : Cx} {k v : Expr} {pos : Pos} {tk tv : TE} (hu : X.A.units + 9 < cLine) (hk : PE X k tk) (hv : PE X v tv) : PE X (.Dict [some k] [v] pos) (tDict1 X.prog X.w X.K tk tv) := by
  refine ⟨fun pins s σ H Q I h => ?_⟩
  have I1 : Inv X pins σ (upd H s.heap.objs.size (ndO X.prog X.w s.heap.objs.size [])) { s with heap := s.heap.push { cls := .type "dict", data := .dict #[] } } := by
    refine I.laid (a := s.heap.objs.size) (o := ndO X.prog X.w s.heap.objs.size []) (t' := s.toks) (fun _ _ q => Heap.get?_push_of_some _ q) (Nat.le_refl _) ?_
    exact ndP.ok ⟨Nat.zero_le _, beq_eq_false_iff_ne.mpr (Ne.symm (Nat.ne_of_lt I.big)), [], .nil, List.nodup_nil, _, #[], 0, Heap.get?_push_size _ rfl, ⟨rfl, rfl, rfl⟩, rfl, rfl⟩
  have hshape : (evalEachOpt [some k] X.env).zip ((evalEach [v] X.env).map fun v => do let x ← v; standAt pos; pure x) = [(eval k X.env, do let x ← eval v X.env; standAt pos; pure x)].map fun p => (some p.1, p.2) := rfl
  rw [arm_eval_Dict, hshape, dictDisplay_pairs _ (by simp) (by simp)]
  refine wpAny_bind (wpAny_standAt (wpAny_bind (wpAny_subDictH (knd := nestedKind X.prog X.w) (Q := fun d s' => wpAny (model X.prog X.w) X.A (pure (Value.ref d)) _ X.xe s') (by show X.A.units + 8 < cLine; omega) (by simp) ?_)))
  unfold evalPairs
  refine wpAny_bind (thn (hk.run pins _ σ _ _ I1 (h _ (I.hok.fresh (Nat.le_refl _)))) fun kv s1 ⟨y, H1, I2, ry, q⟩ => ?_)
  refine wpAny_bind (wpAny_holding (wpAny_bind (thn (hv.run pins s1 σ H1 _ I2 q) fun vv s2 ⟨z, H2, I3, rz, a, key, ey, hd, nk, dp, q2⟩ => ?_)))
  refine wpAny_bind (wpAny_standAt (wpAny_pure ?_))
  unfold evalPairs
  refine wpAny_bind (wpAny_holding (wpAny_pure (wpAny_pure ?_)))
  subst ey
  cases ry
  obtain ⟨ns, le, xs, p, dk⟩ := nd_heap I3 hd (fun z hz => (List.not_mem_nil hz).elim)
  cases p
  refine ⟨[(key, a, vv)], ⟨rfl, rfl, ⟨NK.is I3 nk rfl, dp⟩, trivial⟩, dk, fun h' tk dk' sb => wpAny_pure ?_⟩
  have dk2 : h'.DictOfH (nestedKind X.prog X.w) s.heap.objs.size [(key, a, vv)] := dk'
  refine ⟨.ref s.heap.objs.size, _, I3.write (x := s.heap.objs.size) (e := s.heap.objs.size) (o := ndO X.prog X.w s.heap.objs.size [(key, a, z)]) (by rw [hd]; trivial) (.inl rfl) (fun b o n e => ?_) ?_ (ndP.ok ?_), rfl, q2⟩
  · rw [sb.2 b n]
    exact e
  · obtain ⟨o, es, ep, e, _⟩ := dk2
    exact ⟨o, e⟩
  · obtain ⟨o, es, ep, e, x1, x2, x3, x4, x5⟩ := dk2
    exact ⟨by show 1 ≤ sizeLine; rw [sizeLine_eq]; decide, ns, [(key, a, vv)], .cons ⟨rfl, rfl, rz⟩ .nil, x5, o, es, ep, e, x1, x2, x3⟩
end Gx
namespace Tx
open PySem PySem.Spec PyProof.Rows L2 Gx
section
variable {E κ β ρ ι : Type} {X : ι → Cx} {K : PySem.W.Frag} {R : RetR ρ} {L L' : List (Sl E)} {SK : Rp κ} {S : Rp β} {kf : κ → NestedKey} {P : Program} {w : World}
/-- x = {k: v} -/
theorem ts_oneD {k v : Expr} {p p2 pos : Pos} {set : E → List (κ × β) → E} {wk : E → (κ → Prop) → Prop} {wv : E → (β → Prop) → Prop} {i : Nat} {x : Str} (kr : KR K SK kf) (hP : ∀ j, (X j).prog = P ∧ (X j).w = w ∧ (X j).K = K) (hu : ∀ j, (X j).A.units + 9 < cLine) (hN : ∀ j, (X j).N.Nodup) (hi : ∀ j, (X j).N[i]? = some x) (hx : ∀ j, Loc (X j).env.scope x)
    (hk : TX X K L SK k wk) (hv : TX X K L S v wv) (hl : ∃ s0, (lift (List (κ × β)) L)[i]? = some s0 ∧ s0 ≠ .sr)
    (hsub : Sub (fun e : E × List (κ × β) => set e.1 e.2) ((lift (List (κ × β)) L).set i (.ox (ndR P w SK kf S) Prod.snd)) L') (hs : ∀ j, swapsWith (.Dict [some k] [v] p2) (some (.Name x p)) pos.line (X j).env = pure false := by intro _; rfl)
    (hf : ∀ j, (X j).fn x = true ∨ (X j).env.scope.names.lookup x = some .local := by intro _; first | exact .inl rfl | exact .inr rfl | assumption) : TS1 X K R L L' (.Assign [.Name x p] (.Dict [some k] [v] p2) pos) (fun env kn => wk env fun y => wv env fun z => kn.nx (set env [(y, z)])) := by
  obtain ⟨t1, p1, f1⟩ := hk.ex
  obtain ⟨t2, q2, f2⟩ := hv.ex
  have pe : ∀ j, PE (X j) (.Dict [some k] [v] p2) (tDict1 P w K t1 t2) := fun j => by
    have z := pe_dict1 (pos := p2) (hu j) (p1 j) (q2 j)
    rw [(hP j).1, (hP j).2.1, (hP j).2.2] at z
    exact z
  refine ⟨fun e k k' hn _ hw => hk.mono _ _ _ (fun y hy => hv.mono _ _ _ (fun z hz => hn _ hz) hy) hw, _, fun j => ps_set (hN j) (hi j) (hx j) (pe j) (hs j) (hf j), fun c σ H env own D s hw => fun d hd => ?_⟩
  have s0 := s.withD (D := d) hd (o := ndO P w d []) (.inr ⟨_, rfl, .inl ⟨_, rfl⟩⟩)
  refine f1 _ σ _ env own _ s0 (hk.mono _ _ _ (fun y hy v1 H1 x1 r1 => ?_) hw)
  refine f2 _ σ H1 env own _ (s0.ex x1) (hv.mono _ _ _ (fun z hz v2 H2 x2 r2 => ?_) hy)
  have nsd : ¬ Sr L own d := fun ⟨m, hm, om⟩ => by
    obtain ⟨_, e1, e2, _, x, y, e3, _⟩ := s.slot m _ hm
    rw [om] at e1
    cases e1
    rw [hd] at e3
    cases e3
  have ed : H2 d = some (ndO P w d []) := x2.st _ _ nsd (x1.st _ _ nsd upd_same)
  obtain ⟨a, rfl, nk⟩ := kr.nk (SK.mono x2.ge r1)
  refine ⟨a, kf y, rfl, ed, nk, kr.dp y, ?_⟩
  have ex2 : Ex L own H (upd H2 d (ndO P w d [(kf y, a, v2)])) := ⟨fun b u nb hb => by
    have ne : b ≠ d := ne_of_none hb hd
    rw [upd_ne ne]
    exact x2.st _ _ nb (x1.st _ _ nb (by rw [upd_ne ne]; exact hb)), fun b z => by
    have ne : b ≠ d := fun q => nsd (by rw [← q]; exact z)
    obtain ⟨p, q, e1, e2⟩ := x2.sr b z
    exact ⟨p, q, by rw [upd_ne ne]; exact e1, e2⟩⟩
  have ge : ∀ {Hx : Hp}, (∀ b u, ¬ Wb (withD c d) own b → Hx b = some u → H2 b = some u) → Ge (Wb (withD c d) own) Hx (fun b => Wb c own b ∨ b = d) (upd H2 d (ndO P w d [(kf y, a, v2)])) := fun h b u nb hb => by
    have n1 : ¬ (Wb c own b ∨ b = d) := by
      rintro ((z | z) | z)
      · exact nb (.inl (.inl z))
      · exact nb (.inr z)
      · exact nb (.inl (.inr z))
    exact ⟨n1, by rw [upd_ne (fun z => n1 (.inr z))]; exact h b u nb hb⟩
  exact hz _ _ _ (((s.lift [(y, z)]).setX ⟨fun a o na => ex2.st a o fun z => na (Sr.lift.mpr z), fun a z => ex2.sr a (Sr.lift.mp z)⟩ hl (ndR P w SK kf S) Prod.snd hd upd_same ⟨_, rfl, .cons ⟨rfl, SK.mono (ge fun b u nb hb => (x2.ge b u nb hb).2) r1, S.mono (ge fun b u nb hb => hb) r2⟩ .nil⟩).sub hsub)
end
end Tx

/-! what a call hands back is new, all of it: changed at once, and left -/
namespace Tx
open PySem PySem.Spec PyProof.Rows L2 Gx
section
variable {E : Type} {K : PySem.W.Frag} {c : Bc} {L : List (Sl E)} {σ : L2.St} {H : Hp} {e : E} {own : Own}
theorem St.setAny (s : St K c L σ H e own) {i : Nat} (hL : L[i]? = some .any) (v : Option V) : St K c L (σ.set i v) H e own := by
  refine ⟨by rw [List.length_set]; exact s.len, s.stay, s.dom, s.bw, s.bs, s.inj, s.out, fun j sl hj => ?_⟩
  by_cases h : j = i
  · subst h
    rw [hL] at hj
    cases hj
    exact s.slot j _ hL
  · rw [List.getElem?_set_ne (Ne.symm h)]
    exact s.slot j sl hj
end
theorem eqvLs (xs ys : List (List Str)) : PyData.eqv (.list (xs.map fun x => .list (x.map .str))) (.list (ys.map fun x => .list (x.map .str))) = decide (xs = ys) := by
  have one : ∀ x y : List Str, PyData.eqv (.list (x.map .str)) (.list (y.map .str)) = decide (x = y) := fun x y => by
    unfold PyData.eqv
    induction x generalizing y with
    | nil => cases y <;> simp [PyData.eqvAll]
    | cons a x ih =>
      cases y with
      | nil => simp [PyData.eqvAll]
      | cons b y =>
        simp only [List.map_cons, PyData.eqvAll, ih]
        by_cases p : a = b <;> by_cases q : x = y <;> simp [PyData.eqv, p, q]
  unfold PyData.eqv
  induction xs generalizing ys with
  | nil => cases ys <;> simp [PyData.eqvAll]
  | cons a xs ih =>
    cases ys with
    | nil => simp [PyData.eqvAll]
    | cons b ys =>
      simp only [List.map_cons, PyData.eqvAll, ih, one]
      by_cases p : a = b <;> by_cases q : xs = ys <;> simp [p, q]
section
variable {E ι τ : Type} {X : ι → Cx} {K : PySem.W.Frag} {L : List (Sl E)} {S : Rp Str} {g : E → List (List Str)} {i j k : Nat} {x y f : Str} {a1 a2 : Expr} {w : Bs × Int × Unit → (List (List Str) → Prop) → Prop} {wa : E → (Bs × Int × Unit → Prop) → Prop} {z : Str}
  {p1 p2 p3 p4 q1 q2 q3 q4 q5 q6 r1 r2 r3 r4 r5 r6 r7 r8 t1 t2 t3 t4 t5 : Pos} {kq kr kz : Nat}
theorem ts_told (cl : ∀ n, Ca (X n).prog (X n).w (X n).K (X n).mg (X n).base CX0 k f (spT K (.cons menuR (.cons intR .nil)) (retN (lstR strR)) w)) (mw : ∀ x k k', (∀ y, k y → k' y) → w x k → w x k') (hr : ∀ n, Room k (X n).A) (hg : ∀ n, Gl (X n) f) (ha : TA X K L (.cons menuR (.cons intR .nil)) (a1 :: [a2]) wa)
    (hL : L[i]? = some .any) (hD : L[j]? = some (.im (lstR (lstR strR)) g)) (hij : i ≠ j) (hN : ∀ n, (X n).N.Nodup) (hi : ∀ n, (X n).N[i]? = some x) (hj : ∀ n, (X n).N[j]? = some y) (hx : ∀ n, Loc (X n).env.scope x) (hvx : ∀ n, Vis (X n).env.scope x) (hvy : ∀ n, Vis (X n).env.scope y) (hK : ∀ n, (X n).K = K)
    (ne : ∀ n, OpR (X n) (compareOp .NotEq) (rNeD K))
    (hdb : (f == ("__debug__" : Str)) = false := by decide) (he : ∀ i, starEach (a1 :: [a2]) (X i).env = (false, eval a1 (X i).env) :: starEach [a2] (X i).env := by intro _; rfl) (hpl : ∀ i, (backTo p3 (starEach [a2] (X i).env)).any (·.1) = false := by intro _; rfl)
    (hd : (x == ("__debug__" : Str)) = false := by decide) (hcd : (x == ("__classdict__" : Str)) = false := by decide) (hd2 : (y == ("__debug__" : Str)) = false := by decide) (hcd2 : (y == ("__classdict__" : Str)) = false := by decide)
    (hs : ∀ n, swapsWith (.Call (.Name f p2) [a1, a2] [] p3) (some (.Name x p1)) p4.line (X n).env = pure false := by intro _; rfl) (hf : ∀ n, (X n).fn x = true ∨ (X n).env.scope.names.lookup x = some .local := by intro _; first | exact .inl rfl | exact .inr rfl | assumption)
    (A1 : ∀ n, PE (X n) (.Call (.Attribute (.Subscript (.Name x r1) (.Constant (.int 0) kr r2) r3) "append" r4) [.Constant (.str z) kz r5] [] r6) (tBM K "list" rAppend (tOp (rIxL K) (tVar i) (tC (.int 0))) (tCons (tC (.str z)) tNil))) 
    (A2 : ∀ n, PE (X n) (.Call (.Attribute (.Name x t1) "append" t2) [.List [] t3] [] t4) (tBM K "list" rAppend (tVar i) (tCons (tLst tNil) tNil))) 
    (hs1 : ∀ n, swapsWith (.Call (.Attribute (.Subscript (.Name x r1) (.Constant (.int 0) kr r2) r3) "append" r4) [.Constant (.str z) kz r5] [] r6) none r7.line (X n).env = pure false := by intro _; rfl)
    (hs2 : ∀ n, swapsWith (.Call (.Attribute (.Name x t1) "append" t2) [.List [] t3] [] t4) none t5.line (X n).env = pure false := by intro _; rfl) :
    TS X K (retI boolR) L L [.Assign [.Name x p1] (.Call (.Name f p2) [a1, a2] [] p3) p4, .If (.Compare (.Name x q1) [.NotEq] [.Name y q2] q3) [.Return (some (.Constant (.bool false) kq q4)) q5] [] q6,
      .Expr (.Call (.Attribute (.Subscript (.Name x r1) (.Constant (.int 0) kr r2) r3) "append" r4) [.Constant (.str z) kz r5] [] r6) r7, .Expr (.Call (.Attribute (.Name x t1) "append" t2) [.List [] t3] [] t4) t5]
      (fun env kn => wa env fun q => w q fun told => (∀ r ∈ told, ∀ v ∈ r, okS v) ∧ (∀ r ∈ g env, ∀ v ∈ r, okS v) ∧ if told = g env then told ≠ [] ∧ told.length < sizeLine ∧ (∀ r ∈ told, r.length < sizeLine) ∧ kn.nx env else kn.rt false) := by
  obtain ⟨t, pt, ft⟩ := ha.ex
  refine ⟨fun e k k' hn hr' hw => ha.mono _ _ _ (fun q hq => mw _ _ _ (fun told h => ⟨h.1, h.2.1, ?mono⟩) hq) hw, _, fun n => pss_cons (ps_set (hN n) (hi n) (hx n) (pe_ca (E := fun _ _ _ => False) (cl n) (hr n) (hg n) pass0 (pt n) hdb (he n) (hpl n)) (hs n) (hf n))
    (pss_cons (ps_if (pt_cmpR (ne n) (pe_var (hi n) (hvx n) hd hcd) (pe_var (hj n) (hvy n) hd2 hcd2) (nomark _)) (pss_one (ps_ret pe_bl)) pss_nil)
    (pss_cons (ps_expr (A1 n) (hs1 n)) (pss_one (ps_expr (A2 n) (hs2 n))))), fun c σ H env own D s hw => ?main⟩
  case mono =>
    have h3 := h.2.2
    by_cases c : told = g e
    · rw [if_pos c] at h3 ⊢
      exact ⟨h3.1, h3.2.1, h3.2.2.1, hn _ h3.2.2.2⟩
    · rw [if_neg c] at h3 ⊢
      exact hr' _ h3
  case main =>
    refine ft c σ H env own _ s (ha.mono _ _ _ (fun q hq vs H1 x1 ok => ?_) hw)
    rw [List.append_nil]
    have s1 := s.ex x1
    obtain ⟨v1, us, rfl, m1, v2, us2, rfl, m2, m3⟩ := ok
    have m3 : us2 = [] := m3
    subst m3
    obtain ⟨m, rfl, im⟩ := menuR.is m1
    -- all that could be one's own is not in what comes back
    refine ⟨fun a => OwO (H1 a), q, fun a z => z, ⟨_, _, rfl, menuR.of (fun a z => z) im, _, _, rfl, m2, rfl⟩, mw _ _ _ (fun told ⟨ok1, ok2, fin⟩ => ?_) hq⟩
    rintro v H2 ⟨⟨st, _⟩, l, ws, rfl, nl, _, el, pr⟩
    have nB : ∀ a, ¬ Bof (Ar.cons menuR (.cons intR .nil)) [V.ref m, v2] a := by
      rintro a ⟨n, h, _⟩
      rcases n with _ | _ | n <;> simp [srAt, srB] at h
    have sm : Same H1 H2 := fun a o h => st a o (nB a) h
    have fresh : ∀ a us, H2 a = some (.lst us) → ¬ OwO (H1 a) → H1 a = none := fun a us e n => by
      rcases q1 : H1 a with _ | o
      · rfl
      · have := sm _ _ q1
        rw [e] at this
        cases this
        exact absurd (.inl ⟨us, q1⟩) n
    have inner : ∀ v r, (lstR strR).r K (fun a => OwO (H1 a) ∨ a = l) H2 v r → ∃ a us, v = .ref a ∧ a ≠ l ∧ H1 a = none ∧ H2 a = some (.lst us) ∧ Paired (strR.r K (Wb c own) H2) us r := fun v r ⟨a, us, e, n, h, p⟩ =>
      ⟨a, us, e, fun z => n (.inr z), fresh a us h fun z => n (.inl z), h, Paired.imp2 (fun _ _ z => z) p⟩
    have s2 := s1.ex (s1.exSame sm)
    have toldR : (lstR (lstR strR)).r K (Wb c own) H2 (.ref l) told := ⟨l, ws, rfl, s1.fresh nl, el, Paired.imp2 (fun v r z => by
      obtain ⟨a, us, e, _, f0, h, p⟩ := inner v r z
      exact ⟨a, us, e, s1.fresh f0, h, p⟩) pr⟩
    have s3 := s2.setAny hL (some (.ref l))
    obtain ⟨_, vd, d1, d2⟩ := s3.slot j _ hD
    have li : i < σ.length := by
      rw [s.len]
      exact (List.getElem?_eq_some_iff.mp hL).1
    refine ⟨.ref l, List.getElem?_set_self li, vd, d1, ?_⟩
    refine (v_neD dat_lls).run (Wb c own) H2 told (g env) _ _ _ (fun a ha => s2.fresh ha) toldR d2 ⟨ok1, ok2, ?_⟩
    intro v' H3 sm3 rb
    have rb : v' = .bl (!PyData.eqv (.list (told.map fun x => .list (x.map .str))) (.list ((g env).map fun x => .list (x.map .str)))) := rb
    have eqd := eqvLs told (g env)
    rw [eqd] at rb
    refine ⟨_, rb, ?_⟩
    by_cases cc : told = g env
    · rw [if_pos cc] at fin
      obtain ⟨n0, sz, szi, fin⟩ := fin
      rw [decide_eq_true cc, if_neg (by decide)]
      have sz' : ws.length = told.length := Paired.length pr
      have e3l := sm3 _ _ el
      cases pr with
      | nil => exact absurd rfl n0
      | @cons v0 r0 vs rs z0 zs =>
        obtain ⟨a0, us0, rfl, nal, f0, h0, p0⟩ := inner v0 r0 z0
        have e3a := sm3 _ _ h0
        have lu : us0.length = r0.length := Paired.length p0
        show tBM K "list" rAppend (tOp (rIxL K) (tVar i) (tC (.int 0))) (tCons (tC (.str z)) tNil) (σ.set i (some (.ref l))) H3 _
        refine ⟨.ref l, List.getElem?_set_self li, l, _, 0, .ref a0, rfl, rfl, SqL.of e3l, by unfold atI ixN; simp, .inl ⟨rfl, _, SqL.of e3a⟩, a0, us0, _, rfl, rfl, e3a, by rw [lu]; exact szi _ List.mem_cons_self, ?_⟩
        generalize g4 : upd H3 a0 (.lst (us0 ++ [V.str z])) = H4
        have e4l : H4 l = some (.lst (.ref a0 :: vs)) := by rw [← g4, upd_ne (Ne.symm nal)]; exact e3l
        show tBM K "list" rAppend (tVar i) (tCons (tLst tNil) tNil) (σ.set i (some (.ref l))) H4 _
        refine ⟨.ref l, List.getElem?_set_self li, .inl ⟨rfl, _, SqL.of e4l⟩, Nat.zero_le _, fun p hp => ?_⟩
        have npl : l ≠ p := ne_of_none e4l hp
        refine ⟨l, _, .ref p, rfl, rfl, by rw [upd_ne npl]; exact e4l, by rw [sz']; exact sz, ?_⟩
        refine fin _ _ _ ((s1.ex (s1.exSame fun b o hb => ?_)).setAny hL _)
        have hb3 := sm3 _ _ (sm _ _ hb)
        have n1 : b ≠ a0 := ne_of_none hb f0
        have n2 : b ≠ l := ne_of_none hb nl
        have hb4 : H4 b = some o := by rw [← g4, upd_ne n1]; exact hb3
        rw [upd_ne n2, upd_ne (ne_of_none hb4 hp)]
        exact hb4
    · rw [if_neg cc] at fin
      rw [decide_eq_false cc, if_pos (by decide)]
      have s4 := s1.ex (s1.exSame fun b o hb => sm3 _ _ (sm _ _ hb))
      show D.rt (.bl false) H3
      refine fin _ _ ⟨⟨s4.stay, fun a hb => ?_⟩, rfl⟩
      obtain ⟨n, h1, h2⟩ := s4.bs a hb
      exact s4.sr ⟨n, h1, h2⟩
end
end Tx

/-! plain mathematics: packings, days, trips -/
namespace Px
open PySem PySem.Spec PyProof.Rows L2 Gx Tx
theorem le_line {n : Nat} (h : n ≤ 1000) : n ≤ sizeLine := by
  rw [sizeLine_eq]
  omega
theorem le_line' {n : Nat} (h : n ≤ 1000000) : n ≤ sizeLine := by
  rw [sizeLine_eq]
  omega
theorem le_line'' {n : Nat} (h : n ≤ 1000000) : n < sizeLine := by
  rw [sizeLine_eq]
  omega
theorem up_of {τ ρ : Type} {w : τ → (ρ → Prop) → Prop} {x : τ} {k : ρ → Prop} (h : ∀ k', (∀ y, k y → k' y) → w x k') : up w x k := h
theorem wComp_k {E α β : Type} {p : E × α → Bool} {f : E × α → β} {e : E} {k : List β → Prop} {xs : List α} (h : k ((xs.filter fun x => p (e, x)).map fun x => f (e, x))) : wComp (fun q k => k (p q)) (fun q k => k (f q)) xs [] e k := by
  rw [wComp_pure]
  exact h
theorem idxS_lt {xs : List Str} {x : Str} (h : x ∈ xs) : idxS xs x < xs.length := List.findIdx_lt_length_of_exists ⟨x, h, decide_eq_true rfl⟩
theorem idxS_at {xs : List Str} {x : Str} (h : x ∈ xs) : xs[idxS xs x]? = some x := by
  have lt := idxS_lt h
  rw [List.getElem?_eq_getElem lt]
  exact congrArg some (of_decide_eq_true (List.findIdx_getElem (p := fun z => decide (z = x)) (w := lt)))
theorem idxS_cons_self {xs : List Str} {x : Str} : idxS (x :: xs) x = 0 := by simp [idxS, List.findIdx_cons]
theorem idxS_cons_ne {xs : List Str} {x y : Str} (h : y ≠ x) : idxS (y :: xs) x = idxS xs x + 1 := by simp [idxS, List.findIdx_cons, h]
/-- taken out at its place: gone -/
theorem erase_idx : ∀ {xs : List Str} {x : Str}, x ∈ xs → xs.Nodup → xs.eraseIdx (idxS xs x) = xs.filter (fun z => !decide (z = x))
  | [], x, h, _ => by cases h
  | y :: xs, x, h, nd => by
    rw [List.nodup_cons] at nd
    by_cases e : y = x
    · subst e
      rw [idxS_cons_self, List.eraseIdx_cons_zero, List.filter_cons_of_neg (by simp)]
      exact (List.filter_eq_self.mpr fun z hz => by simp; rintro rfl; exact nd.1 hz).symm
    · rw [idxS_cons_ne e, List.eraseIdx_cons_succ, List.filter_cons_of_pos (by simp [e])]
      rcases List.mem_cons.mp h with h | h
      · exact absurd h.symm e
      · rw [erase_idx h nd.2]
/-- the digs that take the wishes out, one behind the other -/
def digsP : List Str → List Str → Nat
  | _, [] => 0
  | lying, w :: ws => idxS lying w + digsP (lying.filter fun z => !decide (z = w)) ws
/-- how it lies when the wishes have come back -/
def behindP (lying wishes : List Str) (back : Str) : List Str := if back = "place" then lying else wishes.reverse ++ lying.filter fun z => !decide (z ∈ wishes)
theorem behindP_perm {lying wishes : List Str} {back : Str} (nd : lying.Nodup) (nw : wishes.Nodup) (h : ∀ x ∈ wishes, x ∈ lying) : (behindP lying wishes back).Perm lying := by
  unfold behindP
  split
  · exact .refl _
  · have e : (lying.filter fun z => decide (z ∈ wishes)).Perm wishes := by
      rw [List.perm_ext_iff_of_nodup (nd.filter _) nw]
      intro a
      simp only [List.mem_filter, decide_eq_true_eq]
      exact ⟨fun z => z.2, fun z => ⟨h a z, z⟩⟩
    have p1 : (wishes.reverse ++ lying.filter fun z => !decide (z ∈ wishes)).Perm ((lying.filter fun z => decide (z ∈ wishes)) ++ lying.filter fun z => !decide (z ∈ wishes)) := ((List.reverse_perm _).trans e.symm).append_right _
    exact p1.trans (List.filter_append_perm _ lying)
/-- a packing of the menu b -/
def PackP (b : Bs) (xs : List Str) : Prop := xs.Perm b.things
instance {b : Bs} {xs : List Str} : Decidable (PackP b xs) := inferInstanceAs (Decidable (List.Perm _ _))
theorem PackP.nd {b : Bs} {xs : List Str} (h : PackP b xs) (wf : WF b) : xs.Nodup := (h.nodup_iff).mpr wf.td
theorem PackP.len {b : Bs} {xs : List Str} (h : PackP b xs) : xs.length = b.things.length := h.length_eq
/-- the entry of a weather -/
theorem ent_unique {ws : List Ent} (nd : (ws.map Ent.name).Nodup) : ∀ {e f : Ent}, e ∈ ws → f ∈ ws → e.name = f.name → e = f := by
  induction ws with
  | nil => intro e f h; cases h
  | cons g ws ih =>
    intro e f he hf hn
    rw [List.map_cons, List.nodup_cons] at nd
    cases List.mem_cons.mp he with
    | inl h1 => cases List.mem_cons.mp hf with
      | inl h2 => rw [h1, h2]
      | inr h2 => exact absurd (List.mem_map.mpr ⟨f, h2, by rw [← hn, h1]⟩) nd.1
    | inr h1 => cases List.mem_cons.mp hf with
      | inl h2 => exact absurd (List.mem_map.mpr ⟨e, h1, by rw [hn, h2]⟩) nd.1
      | inr h2 => exact ih nd.2 h1 h2 hn
/-- a row that is a trip: each entry can be behind the one before it -/
def TripP (b : Bs) : List Str → List Str → Prop
  | _, [] => True
  | can, x :: xs => x ∈ can ∧ ∃ e ∈ b.ws, e.name = x ∧ TripP b e.later xs
def firstP (b : Bs) : List Str := b.names.take 1
theorem firstP_ne {b : Bs} (wf : WF b) : ∃ x, L2.atI b.names 0 = some x ∧ firstP b = [x] ∧ x ∈ b.names := by
  have h := wf.w1
  obtain ⟨th, ws⟩ := b
  cases ws with
  | nil => simp at h
  | cons e ws => exact ⟨e.name, by simp [L2.atI, ixN, Bs.names], rfl, List.mem_cons_self⟩
/-- behind a trip -/
def tripEnd (b : Bs) : List Str → List Str → List Str
  | can, [] => can
  | can, x :: xs => match b.ws.find? (fun e => decide (e.name = x)) with
    | some e => tripEnd b e.later xs
    | none => []
theorem wFor_rem {E α ρ : Type} {wb : E × α → Kn (E × α) ρ → Prop} {k : Kn E ρ} (I : List α → E → Prop) (step : ∀ x rest e (kn : Kn (E × α) ρ), I (x :: rest) e → (∀ e' : E × α, I rest e'.1 → kn.nx e') → (∀ r, k.rt r → kn.rt r) → wb (e, x) kn) (done : ∀ e, I [] e → k.nx e) : ∀ {xs : List α} {e0 : E}, I xs e0 → wFor wb xs e0 k
  | [], e0, h0 => done e0 h0
  | x :: xs, e0, h0 => step x xs e0 ⟨fun e' => wFor wb xs e'.1 k, k.rt⟩ h0 (fun e' h => wFor_rem I step done h) (fun r h => h)
theorem perm_of : ∀ {ts xs : List Str}, ts.Nodup → (∀ t ∈ ts, t ∈ xs) → xs.length = ts.length → xs.Perm ts
  | [], xs, _, _, h => by
    rw [List.length_eq_zero_iff.mp h]
  | t :: ts, xs, nd, sub, h => by
    rw [List.nodup_cons] at nd
    have ht := sub t List.mem_cons_self
    have p := List.perm_cons_erase ht
    refine p.trans ((perm_of nd.2 (fun u hu => ?_) ?_).cons t)
    · exact (List.mem_erase_of_ne (fun z => nd.1 (by rw [← z]; exact hu))).mpr (sub u (List.mem_cons_of_mem _ hu))
    · rw [List.length_erase_of_mem ht, h]
      rfl
/-- the digs of a trip, and what it leaves -/
def tripDigs (b : Bs) : List Str → List Str → Int
  | _, [] => 0
  | xs, w :: row => match b.ws.find? (fun e => decide (e.name = w)) with
    | some e => (digsP xs e.wishes : Int) + tripDigs b (behindP xs e.wishes e.back) row
    | none => 0
def tripLeft (b : Bs) : List Str → List Str → List Str
  | xs, [] => xs
  | xs, w :: row => match b.ws.find? (fun e => decide (e.name = w)) with
    | some e => tripLeft b (behindP xs e.wishes e.back) row
    | none => xs
theorem find_ent {ws : List Ent} (nd : (ws.map Ent.name).Nodup) {e : Ent} (he : e ∈ ws) : ws.find? (fun f => decide (f.name = e.name)) = some e := by
  induction ws with
  | nil => cases he
  | cons g ws ih =>
    have nd' := nd
    rw [List.map_cons, List.nodup_cons] at nd
    by_cases h : g.name = e.name
    · rw [List.find?_cons_of_pos (by simpa using h), ent_unique nd' List.mem_cons_self he h]
    · rw [List.find?_cons_of_neg (by simpa using h)]
      refine ih nd.2 ?_
      rcases List.mem_cons.mp he with rfl | z
      · exact absurd rfl h
      · exact z
theorem behind_pack {b : Bs} (wf : WF b) {xs : List Str} (h : PackP b xs) {e : Ent} (he : e ∈ b.ws) : PackP b (behindP xs e.wishes e.back) :=
  (behindP_perm (h.nd wf) (wf.we e he).wd fun x hx => h.mem_iff.mpr ((wf.we e he).w x hx)).trans h
theorem wish_len {b : Bs} (wf : WF b) {e : Ent} (he : e ∈ b.ws) : e.wishes.length ≤ 5 := Nat.le_trans (nodup_len (wf.we e he).wd (wf.we e he).w) wf.t5
end Px

/-! mornings and the ways between them, as plain mathematics -/
namespace Px
open PySem PySem.Spec PyProof.Rows L2 Gx Tx
/-- a morning: how the packings lie, and what can come -/
abbrev Morn := List (List Str) × List Str
/-- what the first packing digs more than the others -/
def gainP (ps : List (List Str)) (wishes : List Str) : Int := match ps with
  | [] => 0
  | p :: rest => (digsP p wishes : Int) - (rest.map fun q => (digsP q wishes : Int)).sum
def afterP (m : Morn) (e : Ent) : Morn := (m.1.map fun p => behindP p e.wishes e.back, e.later)
/-- ways tells of each morning in M: in the sequence of what can come, the weather, the gain, the place of the morning behind -/
structure WaysOk (b : Bs) (starts : List (List (List Str))) (ways : List (List (Str × Int × Int))) (M : List Morn) : Prop where
  len : ways.length = M.length
  first : ∀ (i : Nat) (h : i < starts.length), M[i]? = some (starts[i], firstP b)
  way : ∀ (n : Nat) (m : Morn), M[n]? = some m → ∃ on : List (Str × Int × Int), ways[n]? = some on ∧ on.length = m.2.length ∧ ∀ (j : Nat) (x : Str), m.2[j]? = some x → ∃ e, e ∈ b.ws ∧ e.name = x ∧ ∃ k : Nat, on[j]? = some (x, gainP m.1 e.wishes, (k : Int)) ∧ M[k]? = some (afterP m e)
  pack : ∀ m ∈ M, (∀ p ∈ m.1, PackP b p) ∧ m.1 ≠ [] ∧ (∀ x ∈ m.2, x ∈ b.names) ∧ m.2 ≠ [] ∧ m.2.length ≤ 4
  few : M.length < 1000000
def wWays : Bs × List (List (List Str)) × Unit → (List (List (Str × Int × Int)) → Prop) → Prop := fun x k => WF x.1 ∧ x.2.1 ≠ [] ∧ x.2.1.length ≤ 1000 ∧ x.2.1.Nodup ∧ (∀ s ∈ x.2.1, s ≠ [] ∧ s.length ≤ 2 ∧ ∀ p ∈ s, PackP x.1 p) ∧ ∀ ways M, WaysOk x.1 x.2.1 ways M → k ways
theorem wWays_mono : ∀ x k k', (∀ y, k y → k' y) → wWays x k → wWays x k' := fun _ _ _ h ⟨a, b, c, n, d, e⟩ => ⟨a, b, c, n, d, fun w M hw => h _ (e w M hw)⟩
end Px

/-! the greatest gains of trips, row by row -/
namespace Px
open PySem PySem.Spec PyProof.Rows L2 Gx Tx
theorem atI_cast {α : Type} {xs : List α} {k : Nat} : atI xs (k : Int) = xs[k]? := by
  unfold atI ixN
  rw [if_pos (by omega)]
  by_cases h : k < xs.length
  · rw [if_pos (by omega)]
    simp
  · rw [if_neg (by omega)]
    rw [List.getElem?_eq_none (by omega)]
    rfl
/-- a comprehension whose items are only known by a relation -/
theorem wComp_rel {E α β : Type} {we : E × α → (β → Prop) → Prop} {e : E} {k : List β → Prop} (R : α → β → Prop) : ∀ {xs : List α} {acc : List β}, (∀ x ∈ xs, ∀ kn : β → Prop, (∀ y, R x y → kn y) → we (e, x) kn) → (∀ ys, Paired R xs ys → k (acc ++ ys)) → wComp (fun x k => k true) we xs acc e k
  | [], acc, _, h => by
    have := h [] .nil
    rwa [List.append_nil] at this
  | x :: xs, acc, hw, h => by
    show if true = true then (we (e, x) fun y => wComp (fun x k => k true) we xs (acc ++ [y]) e k) else wComp (fun x k => k true) we xs acc e k
    rw [if_pos rfl]
    refine hw x List.mem_cons_self _ fun y hy => ?_
    refine wComp_rel R (fun z hz => hw z (List.mem_cons_of_mem _ hz)) fun ys p => ?_
    rw [List.append_assoc]
    exact h (y :: ys) (.cons hy p)
theorem Paired.get {α β : Type} {R : α → β → Prop} : ∀ {xs : List α} {ys : List β}, Paired R xs ys → ∀ {i : Nat} {x : α}, xs[i]? = some x → ∃ y, ys[i]? = some y ∧ R x y := fun h => Paired.at2 h
theorem Paired.get' {α β : Type} {R : α → β → Prop} : ∀ {xs : List α} {ys : List β}, Paired R xs ys → ∀ {i : Nat} {y : β}, ys[i]? = some y → ∃ x, xs[i]? = some x ∧ R x y
  | _, _, .nil, i, y, h => by simp at h
  | _, _, .cons h t, 0, y, e => by
    simp at e
    subst e
    exact ⟨_, rfl, h⟩
  | _, _, .cons h t, i + 1, y, e => by
    simp only [List.getElem?_cons_succ] at e ⊢
    exact Paired.get' t e
/-- what a trip gains -/
def gainTrip (b : Bs) : List (List Str) → List Str → Int
  | _, [] => 0
  | ps, x :: row => match b.ws.find? (fun e => decide (e.name = x)) with
    | some e => gainP ps e.wishes + gainTrip b (ps.map fun p => behindP p e.wishes e.back) row
    | none => 0
theorem gainTrip_cons {b : Bs} (nd : b.names.Nodup) {e : Ent} (he : e ∈ b.ws) {ps : List (List Str)} {row : List Str} : gainTrip b ps (e.name :: row) = gainP ps e.wishes + gainTrip b (ps.map fun p => behindP p e.wishes e.back) row := by
  conv => lhs; unfold gainTrip
  rw [find_ent nd he]
/-- one packing alone: the digs -/
theorem gainTrip_one {b : Bs} (nd : b.names.Nodup) : ∀ {row : List Str} {p : List Str} {can : List Str}, TripP b can row → gainTrip b [p] row = tripDigs b p row
  | [], p, can, _ => rfl
  | x :: row, p, can, ⟨_, e, he, hn, ht⟩ => by
    subst hn
    rw [gainTrip_cons nd he]
    conv => rhs; unfold tripDigs
    rw [find_ent nd he]
    have := gainTrip_one nd (p := behindP p e.wishes e.back) ht
    simp only [List.map_cons, List.map_nil]
    rw [this]
    simp [gainP]
/-- a row of the greatest gains, times the sign, of trips of d days from each morning -/
def RowOk (b : Bs) (M : List Morn) (sign : Int) (d : Nat) (row : List Int) : Prop := row.length = M.length ∧ ∀ (n : Nat) (m : Morn), M[n]? = some m → ∃ v, row[n]? = some v ∧ (∀ t : List Str, t.length = d → TripP b m.2 t → sign * gainTrip b m.1 t ≤ v) ∧ ∃ t : List Str, t.length = d ∧ TripP b m.2 t ∧ sign * gainTrip b m.1 t = v
theorem row_zero {b : Bs} {M : List Morn} {sign : Int} : RowOk b M sign 0 (List.replicate M.length 0) := by
  refine ⟨List.length_replicate, fun n m hm => ⟨0, ?_, fun t ht _ => ?_, [], rfl, trivial, ?_⟩⟩
  · obtain ⟨h, _⟩ := List.getElem?_eq_some_iff.mp hm
    rw [List.getElem?_replicate, if_pos h]
  · rw [List.length_eq_zero_iff.mp ht]
    show sign * 0 ≤ 0
    omega
  · show sign * 0 = 0
    omega
/-- the value of one way -/
def Val (sign : Int) (ahead : List Int) (w : Str × Int × Int) (y : Int) : Prop := ∃ a, atI ahead w.2.2 = some a ∧ y = sign * w.2.1 + a
/-- the greatest value of a morning's ways -/
def Best (sign : Int) (ahead : List Int) (on : List (Str × Int × Int)) (y : Int) : Prop := ∃ xs, Paired (Val sign ahead) on xs ∧ y ∈ xs ∧ ∀ z ∈ xs, z ≤ y
section
variable {b : Bs} {starts : List (List (List Str))} {ways : List (List (Str × Int × Int))} {M : List Morn} {sign : Int} {d : Nat} {ahead row : List Int}
theorem ways_val (wf : WF b) (wo : WaysOk b starts ways M) (ra : RowOk b M sign d ahead) {n : Nat} {m : Morn} {on : List (Str × Int × Int)} (hm : M[n]? = some m) (ho : ways[n]? = some on) {w : Str × Int × Int} (hw : w ∈ on) :
    ∃ e ∈ b.ws, e.name ∈ m.2 ∧ w.1 = e.name ∧ w.2.1 = gainP m.1 e.wishes ∧ ∃ k : Nat, w.2.2 = (k : Int) ∧ M[k]? = some (afterP m e) := by
  obtain ⟨on', h1, h2, h3⟩ := wo.way n m hm
  rw [ho] at h1
  cases h1
  obtain ⟨j, hj, e⟩ := List.mem_iff_getElem.mp hw
  have lt : j < m.2.length := by omega
  obtain ⟨en, he, hn, k, h4, h5⟩ := h3 j _ (List.getElem?_eq_getElem lt)
  rw [List.getElem?_eq_getElem hj, e] at h4
  cases h4
  refine ⟨en, he, ?_, hn.symm, rfl, k, rfl, h5⟩
  rw [hn]
  exact List.getElem_mem lt
/-- the best way's value is the greatest gain of the trips of a day more -/
theorem best_max (wf : WF b) (wo : WaysOk b starts ways M) (ra : RowOk b M sign d ahead) {n : Nat} {m : Morn} {on : List (Str × Int × Int)} {v : Int} (hm : M[n]? = some m) (ho : ways[n]? = some on) (hb : Best sign ahead on v) :
    (∀ t : List Str, t.length = d + 1 → TripP b m.2 t → sign * gainTrip b m.1 t ≤ v) ∧ ∃ t : List Str, t.length = d + 1 ∧ TripP b m.2 t ∧ sign * gainTrip b m.1 t = v := by
  obtain ⟨on', ho', hl, hw⟩ := wo.way n m hm
  rw [ho] at ho'
  cases ho'
  obtain ⟨xs, px, vin, vmax⟩ := hb
  refine ⟨fun t ht tp => ?_, ?_⟩
  · cases t with
    | nil => cases ht
    | cons x t =>
      obtain ⟨hx, e, he, hn, tp'⟩ := tp
      obtain ⟨j, hj, ej⟩ := List.mem_iff_getElem.mp hx
      obtain ⟨e', he', hn', k, h4, h5⟩ := hw j x (by rw [List.getElem?_eq_getElem hj, ej])
      have ee : e' = e := ent_unique wf.wd he' he (by rw [hn', hn])
      subst ee
      obtain ⟨y, hy, a, ha, ey⟩ := Paired.get px h4
      obtain ⟨v', hv', up, _⟩ := ra.2 k _ h5
      have ha' : ahead[k]? = some a := by
        have := ha
        rwa [atI_cast] at this
      have va : v' = a := by
        rw [hv'] at ha'
        exact Option.some.inj ha'
      subst va
      have := up t (by simpa using ht) tp'
      subst hn
      rw [gainTrip_cons wf.wd he]
      have le := vmax y (List.mem_of_getElem? hy)
      rw [Int.mul_add]
      have q : y = sign * gainP m.1 e'.wishes + v' := ey
      have r : sign * gainTrip b (m.1.map fun p => behindP p e'.wishes e'.back) t ≤ v' := this
      omega
  · obtain ⟨j, hj, ej⟩ := List.mem_iff_getElem.mp vin
    obtain ⟨w, hw1, a, ha, ev⟩ := Paired.get' px (i := j) (by rw [List.getElem?_eq_getElem hj, ej])
    obtain ⟨e, he, hin, w1, w2, k, w3, hk⟩ := ways_val wf wo ra hm ho (List.mem_of_getElem? hw1)
    obtain ⟨v', hv', _, t, ht, tp, et⟩ := ra.2 k _ hk
    rw [w3, atI_cast, hv'] at ha
    cases ha
    refine ⟨e.name :: t, by simpa using ht, ⟨hin, e, he, rfl, tp⟩, ?_⟩
    rw [gainTrip_cons wf.wd he, Int.mul_add, ev, w2]
    have : sign * gainTrip b (m.1.map fun p => behindP p e.wishes e.back) t = a := et
    omega
theorem row_step (wf : WF b) (wo : WaysOk b starts ways M) (ra : RowOk b M sign d ahead) (p : Paired (Best sign ahead) ways row) : RowOk b M sign (d + 1) row := by
  refine ⟨by rw [← Paired.length p, wo.len], fun n m hm => ?_⟩
  obtain ⟨on, ho, hl, hw⟩ := wo.way n m hm
  obtain ⟨v, hv, hb⟩ := Paired.get p ho
  exact ⟨v, hv, best_max wf wo ra hm ho hb⟩
/-- all rows so far -/
def RowsOk (b : Bs) (M : List Morn) (sign : Int) (rows : List (List Int)) : Prop := ∀ (d : Nat) (row : List Int), rows[d]? = some row → RowOk b M sign d row
theorem rows_snoc {rows : List (List Int)} (h : RowsOk b M sign rows) (hr : RowOk b M sign rows.length row) : RowsOk b M sign (rows ++ [row]) := fun d r e => by
  by_cases lt : d < rows.length
  · rw [List.getElem?_append_left lt] at e
    exact h d r e
  · rw [List.getElem?_append_right (by omega)] at e
    have : d - rows.length = 0 := by
      rcases q : d - rows.length with _ | m
      · rfl
      · rw [q] at e
        simp at e
    rw [this] at e
    simp at e
    subst e
    have : d = rows.length := by omega
    subst this
    exact hr
theorem flat_rep (n : Nat) (x : Int) : (List.replicate n [x]).flatten = List.replicate n x := by
  induction n with
  | zero => rfl
  | succ n ih => rw [List.replicate_succ, List.flatten_cons, ih, List.replicate_succ]; rfl
end
theorem eqv_l {xs ys : List Str} : (PyData.list (xs.map PyData.str)).eqv (PyData.list (ys.map PyData.str)) = decide (xs = ys) := by
  unfold PyData.eqv
  exact eqv_strs xs ys
theorem cut_hi {α : Type} {xs : List α} {k : Nat} (h : k ≤ xs.length) : cutL xs none (some (k : Int)) = xs.take k := by
  unfold cutL HT.sIx
  simp only [List.drop_zero, Nat.sub_zero]
  rw [if_neg (by omega), Int.toNat_natCast, Nat.min_eq_left h]
theorem cut_lo {α : Type} {xs : List α} {k : Nat} (h : k ≤ xs.length) : cutL xs (some (k : Int)) none = xs.drop k := by
  unfold cutL HT.sIx
  simp only
  rw [if_neg (by omega), Int.toNat_natCast, Nat.min_eq_left h]
  rw [List.take_of_length_le (by rw [List.length_drop]; omega)]
/-- plain names are texts of letters -/
theorem TripP.names {b : Bs} : ∀ {row can : List Str}, TripP b can row → ∀ x ∈ row, x ∈ b.names
  | [], _, _, x, h => by cases h
  | y :: row, can, ⟨_, e, he, hn, ht⟩, x, h => by
    rcases List.mem_cons.mp h with rfl | h
    · exact List.mem_map.mpr ⟨e, he, hn⟩
    · exact TripP.names ht x h
/-- a day more -/
theorem TripP.snoc {b : Bs} (wf : WF b) : ∀ {row can : List Str} {x : Str} {e : Ent}, TripP b can row → e ∈ b.ws → e.name = x → (row = [] → x ∈ can) → (∀ f ∈ b.ws, row.getLast? = some f.name → x ∈ f.later) → TripP b can (row ++ [x])
  | [], can, x, e, _, he, hn, h0, _ => ⟨h0 rfl, e, he, hn, trivial⟩
  | y :: row, can, x, e, ⟨hy, f, hf, hfn, ht⟩, he, hn, _, hl => by
    refine ⟨hy, f, hf, hfn, TripP.snoc wf ht he hn (fun z => ?_) (fun g hg z => ?_)⟩
    · subst z
      exact hl f hf (by simp [hfn])
    · refine hl g hg ?_
      rw [List.getLast?_cons, z]
      rfl
theorem TripP.take {b : Bs} : ∀ {row can : List Str} (n : Nat), TripP b can row → TripP b can (row.take n)
  | [], can, n, h => by simp [TripP]
  | y :: row, can, 0, _ => trivial
  | y :: row, can, n + 1, ⟨hy, f, hf, hfn, ht⟩ => ⟨hy, f, hf, hfn, TripP.take n ht⟩
/-- cut in two -/
theorem TripP.drop {b : Bs} : ∀ {row can : List Str} (n : Nat), TripP b can row → ∃ can', TripP b can' (row.drop n)
  | [], can, n, h => ⟨can, by simp [TripP]⟩
  | y :: row, can, 0, h => ⟨can, h⟩
  | y :: row, can, n + 1, ⟨hy, f, hf, hfn, ht⟩ => TripP.drop n ht
theorem digs_app {b : Bs} (nd : b.names.Nodup) : ∀ {r1 r2 can : List Str} {p : List Str}, TripP b can (r1 ++ r2) → tripDigs b p (r1 ++ r2) = tripDigs b p r1 + tripDigs b (tripLeft b p r1) r2 ∧ tripLeft b p (r1 ++ r2) = tripLeft b (tripLeft b p r1) r2
  | [], r2, can, p, _ => ⟨by simp [tripDigs, tripLeft], rfl⟩
  | x :: r1, r2, can, p, ⟨_, e, he, hn, ht⟩ => by
    subst hn
    obtain ⟨q1, q2⟩ := digs_app nd (p := behindP p e.wishes e.back) ht
    have f := find_ent nd he
    constructor
    · show tripDigs b p (e.name :: (r1 ++ r2)) = tripDigs b p (e.name :: r1) + tripDigs b (tripLeft b p (e.name :: r1)) r2
      have l1 : ∀ r, tripDigs b p (e.name :: r) = (digsP p e.wishes : Int) + tripDigs b (behindP p e.wishes e.back) r := fun r => by
        conv => lhs; unfold tripDigs
        rw [f]
      have l2 : ∀ r, tripLeft b p (e.name :: r) = tripLeft b (behindP p e.wishes e.back) r := fun r => by
        conv => lhs; unfold tripLeft
        rw [f]
      rw [l1, l1, l2, q1]
      omega
    · show tripLeft b p (e.name :: (r1 ++ r2)) = tripLeft b (tripLeft b p (e.name :: r1)) r2
      have l2 : ∀ r, tripLeft b p (e.name :: r) = tripLeft b (behindP p e.wishes e.back) r := fun r => by
        conv => lhs; unfold tripLeft
        rw [f]
      rw [l2, l2, q2]
theorem left_pack {b : Bs} (wf : WF b) : ∀ {row can : List Str} {p : List Str}, TripP b can row → PackP b p → PackP b (tripLeft b p row)
  | [], can, p, _, pp => pp
  | x :: row, can, p, ⟨_, e, he, hn, ht⟩, pp => by
    subst hn
    have l2 : tripLeft b p (e.name :: row) = tripLeft b (behindP p e.wishes e.back) row := by
      conv => lhs; unfold tripLeft
      rw [find_ent wf.wd he]
    rw [l2]
    exact left_pack wf ht (behind_pack wf pp he)
end Px

/-! there are few mornings; tables and numbers -/
namespace Px
open PySem PySem.Spec PyProof.Rows L2 Gx Tx
theorem atI_last {α : Type} {xs : List α} {n : Nat} (h : xs.length = n + 1) : atI xs (-1) = xs[n]? := by
  unfold atI ixN
  rw [if_neg (by omega), h]
  by_cases c : (0 : Int) ≤ -1 + ((n + 1 : Nat) : Int)
  · first
    | rw [if_pos (by omega), show (-1 + ((n + 1 : Nat) : Int)).toNat = n from by omega]; rfl
    | (simp; omega)
  · omega
/-! sequences of things -/
def insP (x : Str) : List Str → List (List Str)
  | [] => [[x]]
  | y :: ys => (x :: y :: ys) :: (insP x ys).map fun z => y :: z
theorem insP_len {x : Str} : ∀ l : List Str, (insP x l).length = l.length + 1
  | [] => rfl
  | y :: ys => by simp [insP, insP_len ys]
theorem insP_mem {x : Str} : ∀ l r : List Str, l ++ x :: r ∈ insP x (l ++ r)
  | [], [] => by simp [insP]
  | [], y :: ys => by simp [insP]
  | z :: l, r => by
    show z :: (l ++ x :: r) ∈ insP x (z :: (l ++ r))
    exact List.mem_cons_of_mem _ (List.mem_map.mpr ⟨_, insP_mem l r, rfl⟩)
def permsP : List Str → List (List Str)
  | [] => [[]]
  | x :: xs => (permsP xs).flatMap (insP x)
theorem permsP_mem : ∀ {ts p : List Str}, p.Perm ts → p ∈ permsP ts
  | [], p, h => by rw [List.perm_nil.mp h]; exact List.mem_singleton.mpr rfl
  | x :: xs, p, h => by
    obtain ⟨l, r, rfl⟩ := List.append_of_mem (h.mem_iff.mpr List.mem_cons_self)
    have q : (l ++ r).Perm xs := List.Perm.cons_inv ((List.perm_middle.symm).trans h)
    exact List.mem_flatMap.mpr ⟨_, permsP_mem q, insP_mem l r⟩
theorem permsP_each : ∀ {ts p : List Str}, p ∈ permsP ts → p.length = ts.length
  | [], p, h => by rw [List.mem_singleton.mp h]
  | x :: xs, p, h => by
    obtain ⟨q, hq, hp⟩ := List.mem_flatMap.mp h
    have e := permsP_each hq
    have all : ∀ (l : List Str) (z : List Str), z ∈ insP x l → z.length = l.length + 1 := by
      intro l
      induction l with
      | nil => intro z hz; rw [List.mem_singleton.mp hz]; rfl
      | cons y ys ih =>
        intro z hz
        rcases List.mem_cons.mp hz with rfl | hz
        · rfl
        · obtain ⟨w, hw, rfl⟩ := List.mem_map.mp hz
          rw [List.length_cons, ih w hw, List.length_cons]
    rw [all q p hp, e, List.length_cons]
theorem flat_len {α β : Type} {f : α → List β} {m : Nat} : ∀ {l : List α}, (∀ a ∈ l, (f a).length ≤ m) → (l.flatMap f).length ≤ l.length * m
  | [], _ => by simp
  | a :: l, h => by
    have := flat_len (l := l) fun b hb => h b (List.mem_cons_of_mem _ hb)
    have := h a List.mem_cons_self
    rw [List.flatMap_cons, List.length_append, List.length_cons, Nat.succ_mul]
    omega
theorem permsP_len {ts : List Str} (h : ts.length ≤ 5) : (permsP ts).length ≤ 120 := by
  have step : ∀ (x : Str) (xs : List Str) (n : Nat), (permsP xs).length ≤ n → (permsP (x :: xs)).length ≤ n * (xs.length + 1) := fun x xs n hn => by
    have := flat_len (f := insP x) (m := xs.length + 1) (l := permsP xs) fun a ha => by rw [insP_len, permsP_each ha]; exact Nat.le_refl _
    exact Nat.le_trans this (Nat.mul_le_mul_right _ hn)
  match ts, h with
  | [], _ => decide
  | [a], _ => exact Nat.le_trans (step a [] 1 (by decide)) (by simp only [List.length_cons, List.length_nil]; omega)
  | [a, b], _ => exact Nat.le_trans (step a [b] _ (step b [] 1 (by decide))) (by simp only [List.length_cons, List.length_nil]; omega)
  | [a, b, c], _ => exact Nat.le_trans (step a [b, c] _ (step b [c] _ (step c [] 1 (by decide)))) (by simp only [List.length_cons, List.length_nil]; omega)
  | [a, b, c, d], _ => exact Nat.le_trans (step a [b, c, d] _ (step b [c, d] _ (step c [d] _ (step d [] 1 (by decide))))) (by simp only [List.length_cons, List.length_nil]; omega)
  | [a, b, c, d, e], _ => exact Nat.le_trans (step a [b, c, d, e] _ (step b [c, d, e] _ (step c [d, e] _ (step d [e] _ (step e [] 1 (by decide)))))) (by simp only [List.length_cons, List.length_nil]; omega)
  | _ :: _ :: _ :: _ :: _ :: _ :: _, h => simp at h
/-! mornings -/
def rowsM (b : Bs) : List (List Str) := firstP b :: b.ws.map Ent.later
structure MornP (b : Bs) (m : Morn) : Prop where
  one : m.1.length = 1 ∨ m.1.length = 2
  pk : ∀ p ∈ m.1, PackP b p
  row : m.2 ∈ rowsM b
def allM (b : Bs) : List Morn := ((permsP b.things).map (fun p => [p]) ++ (permsP b.things).flatMap fun p => (permsP b.things).map fun q => [p, q]).flatMap fun ps => (rowsM b).map fun r => (ps, r)
theorem allM_mem {b : Bs} {m : Morn} (h : MornP b m) : m ∈ allM b := by
  obtain ⟨ps, r⟩ := m
  refine List.mem_flatMap.mpr ⟨ps, ?_, List.mem_map.mpr ⟨r, h.row, rfl⟩⟩
  rw [List.mem_append]
  rcases h.one with e | e
  · obtain ⟨p, rfl⟩ := List.length_eq_one_iff.mp e
    exact .inl (List.mem_map.mpr ⟨p, permsP_mem (h.pk p (List.mem_singleton.mpr rfl)), rfl⟩)
  · match ps, e with
    | [p, q], _ => exact .inr (List.mem_flatMap.mpr ⟨p, permsP_mem (h.pk p List.mem_cons_self), List.mem_map.mpr ⟨q, permsP_mem (h.pk q (List.mem_cons_of_mem _ (List.mem_singleton.mpr rfl))), rfl⟩⟩)
theorem allM_len {b : Bs} (wf : WF b) : (allM b).length ≤ 72600 := by
  have l1 := permsP_len wf.t5
  have l2 : (rowsM b).length ≤ 5 := by
    have := wf.w4
    simp [rowsM]
    omega
  have l3 : ((permsP b.things).flatMap fun p => (permsP b.things).map fun q => [p, q]).length ≤ 14400 := by
    have := flat_len (f := fun p => (permsP b.things).map fun q => [p, q]) (m := 120) (l := permsP b.things) fun a _ => by rw [List.length_map]; exact l1
    omega
  have := flat_len (f := fun ps : List (List Str) => (rowsM b).map fun r => ((ps, r) : Morn)) (m := 5) (l := (permsP b.things).map (fun p => [p]) ++ (permsP b.things).flatMap fun p => (permsP b.things).map fun q => [p, q]) fun a _ => by rw [List.length_map]; exact l2
  rw [List.length_append, List.length_map] at this
  exact Nat.le_trans this (by omega)
theorem mornings_few {b : Bs} (wf : WF b) {M : List Morn} (nd : M.Nodup) (h : ∀ m ∈ M, MornP b m) : M.length ≤ 72600 :=
  Nat.le_trans (nodup_len nd fun m hm => allM_mem (h m hm)) (allM_len wf)
theorem after_morn {b : Bs} (wf : WF b) {m : Morn} (h : MornP b m) {e : Ent} (he : e ∈ b.ws) : MornP b (afterP m e) := by
  refine ⟨by simpa [afterP] using h.one, fun p hp => ?_, List.mem_cons_of_mem _ (List.mem_map.mpr ⟨e, he, rfl⟩)⟩
  obtain ⟨q, hq, rfl⟩ := List.mem_map.mp hp
  exact behind_pack wf (h.pk q hq) he
theorem rowsM_names {b : Bs} (wf : WF b) {r : List Str} (h : r ∈ rowsM b) : (∀ x ∈ r, x ∈ b.names) ∧ r ≠ [] ∧ r.length ≤ 4 := by
  have w4 := wf.w4
  rcases List.mem_cons.mp h with rfl | h
  · obtain ⟨x, _, e, hx⟩ := firstP_ne wf
    rw [e]
    refine ⟨fun y hy => ?_, by simp, by simp⟩
    rw [List.mem_singleton.mp hy]
    exact hx
  · obtain ⟨e, he, rfl⟩ := List.mem_map.mp h
    have we := wf.we e he
    refine ⟨we.l, we.l0, Nat.le_trans (nodup_len we.ld we.l) ?_⟩
    unfold Bs.names
    simpa using w4
/-! tables -/
theorem wDc_map {E α κ β : Type} [DecidableEq κ] {kf : α → κ} {wv : E × α → (β → Prop) → Prop} {e : E} {k : List (κ × β) → Prop} (g : α → β) : ∀ {xs : List α} {acc : List (κ × β)}, (∀ x ∈ xs, ∀ k' : β → Prop, k' (g x) → wv (e, x) k') → (acc.map Prod.fst ++ xs.map kf).Nodup → k (acc ++ xs.map fun x => (kf x, g x)) →
    wDc (fun (_ : E × α) (k : Bool → Prop) => k true) (fun (env : E × α) (k : κ → Prop) => k (kf env.2)) wv xs acc e k
  | [], acc, _, _, h => by rwa [List.map_nil, List.append_nil] at h
  | x :: xs, acc, hw, nd, h => by
    show if true = true then (wv (e, x) fun z => getK acc (kf x) = none ∧ wDc (fun (_ : E × α) (k : Bool → Prop) => k true) (fun (env : E × α) (k : κ → Prop) => k (kf env.2)) wv xs (acc ++ [(kf x, z)]) e k) else wDc (fun (_ : E × α) (k : Bool → Prop) => k true) (fun (env : E × α) (k : κ → Prop) => k (kf env.2)) wv xs acc e k
    rw [if_pos rfl]
    refine hw x List.mem_cons_self _ ⟨?_, ?_⟩
    · unfold getK
      rw [Option.map_eq_none_iff, List.find?_eq_none]
      intro p hp z
      have z := of_decide_eq_true z
      have := (List.nodup_append.mp nd).2.2 (kf x) (List.mem_map.mpr ⟨p, hp, z⟩) (kf x) List.mem_cons_self
      exact this rfl
    · refine wDc_map g (fun y hy => hw y (List.mem_cons_of_mem _ hy)) ?_ ?_
      · simpa using nd
      · simpa using h
theorem getK_map {β : Type} {g : Str → β} {x : Str} : ∀ {xs : List Str}, x ∈ xs → getK (xs.map fun y => (y, g y)) x = some (g x)
  | y :: xs, h => by
    rw [List.map_cons, getK_cons]
    by_cases e : y = x
    · subst e
      rw [if_pos rfl]
    · rw [if_neg e]
      rcases List.mem_cons.mp h with h | h
      · exact absurd h.symm e
      · exact getK_map h
/-! numbers -/
def numP (M : List Morn) : List (Morn × Int) := M.zipIdx.map fun q => (q.1, (q.2 : Int))
theorem numP_app {M : List Morn} {m : Morn} : numP (M ++ [m]) = numP M ++ [(m, (M.length : Int))] := by
  unfold numP
  rw [List.zipIdx_append]
  simp
theorem numP_len {M : List Morn} : (numP M).length = M.length := by simp [numP]
theorem numP_get {m : Morn} : ∀ {M : List Morn} {i : Nat} {z : Int}, getK (M.zipIdx i |>.map fun q => (q.1, (q.2 : Int))) m = some z → ∃ k : Nat, z = ((i + k : Nat) : Int) ∧ M[k]? = some m
  | [], i, z, h => by simp [getK] at h
  | n :: M, i, z, h => by
    rw [List.zipIdx_cons, List.map_cons, getK_cons] at h
    by_cases e : n = m
    · rw [if_pos e] at h
      refine ⟨0, ?_, by rw [← e]; rfl⟩
      rw [Nat.add_zero]
      exact (Option.some.inj h).symm
    · rw [if_neg e] at h
      obtain ⟨k, h1, h2⟩ := numP_get (i := i + 1) h
      exact ⟨k + 1, by rw [h1]; congr 1; omega, h2⟩
theorem numP_none {m : Morn} : ∀ {M : List Morn} {i : Nat}, getK (M.zipIdx i |>.map fun q => (q.1, (q.2 : Int))) m = none → m ∉ M
  | [], i, h => by simp
  | n :: M, i, h => by
    rw [List.zipIdx_cons, List.map_cons, getK_cons] at h
    by_cases e : n = m
    · rw [if_pos e] at h
      cases h
    · rw [if_neg e] at h
      intro z
      rcases List.mem_cons.mp z with z | z
      · exact e z.symm
      · exact numP_none h z
theorem numP_num {M : List Morn} {m : Morn} {z : Int} (h : getK (numP M) m = some z) : ∃ k : Nat, z = (k : Int) ∧ M[k]? = some m := by
  obtain ⟨k, h1, h2⟩ := numP_get (i := 0) h
  exact ⟨k, by rw [h1, Nat.zero_add], h2⟩
theorem numP_new {M : List Morn} {m : Morn} (h : getK (numP M) m = none) : m ∉ M := numP_none (i := 0) h
theorem numP_last {M : List Morn} {m : Morn} (h : getK (numP M) m = none) : getK (numP M ++ [(m, (M.length : Int))]) m = some (M.length : Int) := by
  rw [getK_app, h, if_pos rfl]
  rfl
theorem Paired.map_of {α β : Type} {f : α → β} : ∀ {xs : List α} {ys : List β}, Paired (fun x z => z = f x) xs ys → ys = xs.map f
  | _, _, .nil => rfl
  | _, _, .cons h t => by rw [h, Paired.map_of t]; rfl
theorem cut_tail {α : Type} {x : α} {xs : List α} : cutL (x :: xs) (some 1) none = xs := by
  unfold cutL
  have a : HT.sIx (x :: xs).length 0 (some 1) = 1 := by
    unfold HT.sIx
    simp
  have b : HT.sIx (x :: xs).length (x :: xs).length none = (x :: xs).length := rfl
  rw [a, b]
  simp
theorem cut_first {xs : List Str} (h : xs ≠ []) : cutL xs none (some 1) = xs.take 1 := by
  unfold cutL
  have a : HT.sIx xs.length 0 none = 0 := rfl
  have b : HT.sIx xs.length xs.length (some 1) = 1 := by
    unfold HT.sIx
    have := List.length_pos_iff.mpr h
    simp
    omega
  rw [a, b]
  simp
/-- a loop whose measure grows up to a bound -/
theorem wWhile_inv {E ρ : Type} {wt : E → (Bool → Prop) → Prop} {wb : E → Kn E ρ → Prop} {k : Kn E ρ} (I : E → Prop) (μ : E → Nat) (B : Nat) (bd : ∀ e, I e → μ e ≤ B) (step : ∀ e (kn : Kn E ρ), I e → (∀ e', I e' → μ e < μ e' → kn.nx e') → (∀ r, k.rt r → kn.rt r) → wt e fun b => if b = true then wb e kn else k.nx e) : ∀ (n : Nat) (e : E), I e → B + 1 ≤ n + μ e → wWhile wt wb n e k
  | 0, e, h, l => by
    have := bd e h
    omega
  | n + 1, e, h, l => step e ⟨fun e' => wWhile wt wb n e' k, k.rt⟩ h (fun e' h' lt => wWhile_inv I μ B bd step n e' h' (by omega)) fun r h => h
/-- what a menu's table tells of a weather -/
def gT (b : Bs) (x : Str) : List Str × Str × List Str := match b.ws.find? (fun e => decide (e.name = x)) with
  | some e => (e.wishes, e.back, e.later)
  | none => ([], "", [])
theorem gT_of {b : Bs} (nd : b.names.Nodup) {e : Ent} (he : e ∈ b.ws) : gT b e.name = (e.wishes, e.back, e.later) := by
  unfold gT
  rw [find_ent nd he]
def tabP (b : Bs) : List (Str × (List Str × Str × List Str)) := b.names.map fun x => (x, gT b x)
/-- the first n ways from a morning -/
structure RowN (b : Bs) (M : List Morn) (m : Morn) (on : List (Str × Int × Int)) (n : Nat) : Prop where
  len : on.length = n
  way : ∀ (j : Nat) (x : Str), j < n → m.2[j]? = some x → ∃ e, e ∈ b.ws ∧ e.name = x ∧ ∃ k : Nat, on[j]? = some (x, gainP m.1 e.wishes, (k : Int)) ∧ M[k]? = some (afterP m e)
theorem RowN.app {b : Bs} {M ext : List Morn} {m : Morn} {on : List (Str × Int × Int)} {n : Nat} (h : RowN b M m on n) : RowN b (M ++ ext) m on n := by
  refine ⟨h.len, fun j x lt hx => ?_⟩
  obtain ⟨e, h1, h2, k, h3, h4⟩ := h.way j x lt hx
  exact ⟨e, h1, h2, k, h3, by rw [List.getElem?_append_left (List.getElem?_eq_some_iff.mp h4).1]; exact h4⟩
theorem RowN.snoc {b : Bs} {M : List Morn} {m : Morn} {on : List (Str × Int × Int)} {done rest : List Str} {e : Ent} {k : Nat} (h : RowN b M m on done.length) (hm : m.2 = done ++ e.name :: rest) (he : e ∈ b.ws) (hk : M[k]? = some (afterP m e)) : RowN b M m (on ++ [(e.name, gainP m.1 e.wishes, (k : Int))]) (done ++ [e.name]).length := by
  have hl := h.len
  refine ⟨by simp [hl], fun j x lt hx => ?_⟩
  rw [List.length_append, List.length_singleton] at lt
  by_cases c : j < done.length
  · obtain ⟨e', h1, h2, k', h3, h4⟩ := h.way j x c hx
    exact ⟨e', h1, h2, k', by rw [List.getElem?_append_left (by omega)]; exact h3, h4⟩
  · obtain rfl : j = done.length := by omega
    rw [hm, List.getElem?_append_right (Nat.le_refl _), Nat.sub_self] at hx
    have hx : e.name = x := Option.some.inj hx
    subst hx
    exact ⟨e, he, rfl, k, by rw [List.getElem?_append_right (by omega), hl, Nat.sub_self]; rfl, hk⟩
structure WInv (b : Bs) (starts : List (List (List Str))) (M : List Morn) (W : List (List (Str × Int × Int))) : Prop where
  nd : M.Nodup
  mp : ∀ m ∈ M, MornP b m
  le : W.length ≤ M.length
  st : ∀ (i : Nat) (h : i < starts.length), M[i]? = some (starts[i], firstP b)
  row : ∀ (n : Nat) (m : Morn), n < W.length → M[n]? = some m → ∃ on, W[n]? = some on ∧ RowN b M m on m.2.length
theorem WInv.ok {b : Bs} (wf : WF b) {starts : List (List (List Str))} {M : List Morn} {W : List (List (Str × Int × Int))} (h : WInv b starts M W) (e : W.length = M.length) : WaysOk b starts W M := by
  refine ⟨e, h.st, fun n m hm => ?_, fun m hm => ?_, ?_⟩
  · have lt := (List.getElem?_eq_some_iff.mp hm).1
    obtain ⟨on, h1, h2⟩ := h.row n m (by omega) hm
    exact ⟨on, h1, h2.len, fun j x hx => h2.way j x (List.getElem?_eq_some_iff.mp hx).1 hx⟩
  · have q := h.mp m hm
    obtain ⟨r1, r2, r3⟩ := rowsM_names wf q.row
    refine ⟨q.pk, ?_, r1, r2, r3⟩
    intro z
    rcases q.one with o | o <;> rw [z] at o <;> simp at o
  · have := mornings_few wf h.nd h.mp
    omega
theorem WInv.next {b : Bs} {starts : List (List (List Str))} {M ext : List Morn} {W : List (List (Str × Int × Int))} {m : Morn} {on : List (Str × Int × Int)} (h : WInv b starts M W) (hm : M[W.length]? = some m) (nd : (M ++ ext).Nodup) (mp : ∀ m ∈ M ++ ext, MornP b m) (hr : RowN b (M ++ ext) m on m.2.length) : WInv b starts (M ++ ext) (W ++ [on]) := by
  have lt := (List.getElem?_eq_some_iff.mp hm).1
  refine ⟨nd, mp, by simp only [List.length_append, List.length_singleton]; omega, fun i hi => ?_, fun n m' hn hm' => ?_⟩
  · have := h.st i hi
    rw [List.getElem?_append_left (List.getElem?_eq_some_iff.mp this).1]
    exact this
  · rw [List.length_append, List.length_singleton] at hn
    rw [List.getElem?_append_left (by omega)] at hm'
    by_cases c : n < W.length
    · obtain ⟨on', h1, h2⟩ := h.row n m' c hm'
      exact ⟨on', by rw [List.getElem?_append_left c]; exact h1, h2.app⟩
    · obtain rfl : n = W.length := by omega
      rw [hm] at hm'
      cases hm'
      exact ⟨on, by rw [List.getElem?_append_right (Nat.le_refl _), Nat.sub_self]; rfl, hr⟩
end Px

namespace K20
open PySem PySem.Spec PyProof.Rows L2 Gx Tx Px
section
variable {P : Program} {w : World} {K : PySem.W.Frag} {mg : Str → Option Value} {base : Heap}
theorem op_neM {X : Cx} {CX : CXT} {n : Nat} {C : Addr} {sp : Sp} {E : XK} (c : CaM X.prog X.w X.K X.mg X.base CX n C "__eq__" sp) (ho : PySem.W.subIn X.K (.ref C) (.type "object") = some true)
    (hd : PySem.W.findIn X.K (.ref C) "__ne__" = some (some (.builtin "object.__ne__"))) (hx : Passes CX X E) (hr : Room (n + 1) X.A) (hu : X.A.units + 1 < cLine) : OpR X (compareOp .NotEq) (rOwn X.K C sp E true) := by
  obtain ⟨f, fd, ps, F, hb, hm, cl⟩ := c.ex
  exact op_neO F hm.at_ hm.fn ho hd hb hx hr hu
theorem v_neM (F : Facts K mg) {E : XK} : VR2 K menuR menuR boolR (rOwn K (He.ga K "Menu") (spEqM K) E true) (fun b c k => WF b ∧ WF c ∧ k (!decide (b = c))) := ⟨fun x y k k' h h2 => ⟨h2.1, h2.2.1, h _ h2.2.2⟩, fun W H x y v u Q fr r1 r2 ⟨w1, w2, q⟩ => by
  obtain ⟨m, rfl, h1⟩ := menuR.is r1
  obtain ⟨m2, rfl, h2⟩ := menuR.is r2
  have h1' := h1
  have h2' := h2
  obtain ⟨dx, t1, t2, d1, d2, d3, k1, k3, hm, _⟩ := h1
  obtain ⟨ex, u1, u2, e1, e2, e3, j1, j3, gm, _⟩ := h2
  refine ⟨m, dx, _, _, rfl, hm, (menuI F).ty (cls_Menu F) gm, (menuI F).first, m, _, x, rfl, h1', .inl ⟨m2, y, rfl, h2', w1, w2, _, rfl, q _ H (Same.refl _) ?_⟩⟩
  show V.bl (true != decide (x = y)) = V.bl (!decide (x = y))
  cases decide (x = y) <;> rfl⟩
end
abbrev Loc_law_entry := Unit

noncomputable def d_law_entry : { wb : (Bs × Str × Unit) × Loc_law_entry → Kn ((Bs × Str × Unit) × Loc_law_entry) Ent → Prop // ∀ {P : Program} {ww : World} {K : PySem.W.Frag} {mg : Str → Option Value} {base : Heap}, Facts K mg → Ca P ww K mg base CX0 1 "_law_entry" (spT K (.cons baseR (.cons strR .nil)) (retI entR) (wT (() : Loc_law_entry) wb)) } :=
  ⟨_, fun {P ww K mg base} F => by
    obtain ⟨fd, D⟩ := fun_law_entry F
    refine ⟨_, fd, ["base", "weather"], D.ok sc_law_entry (fun vs H Q E h => spT_len h) (fun cdv A outer s H vs Q E hr h => ?_), D.bindsN fun _ _ _ _ _ _ us hl => match us, hl with | [_, _], _ => rfl, g__law_entry F, D.kp⟩
    have hu := hu_of hr
    refine body_wT (K := K) (A := (.cons baseR (.cons strR .nil))) (R := retI entR) (Λ := Loc_law_entry) (l0 := ()) (L' := [.im baseR (fun e => e.1.1), .im strR (fun e => e.1.2.1), .any]) (n := 1) (ts_cons (ts_ret (tx_ix (fun _ => (ix_listK rfl)) v_ixL (TN.tx (tn_comp (bown := [("entry", 2)]) (fun _ => rfl) (fun _ => sc_law_entry.nd) (it_tup (tx_prj (n := 1) unp_base (.succ .zero) (tx_im (i := 0) rfl (fun _ => rfl) (fun _ => Or.inl rfl)))) (fun _ => blkOk_by (own := [("entry", 2)]) (N := ["base", "weather", "entry"]) (sc := defScope s_law_entry) (by decide +kernel)) (allB rfl) (by decide) (tgt_name (i := 2) (fun _ => sc_law_entry.nd) (fun _ => rfl) (fun _ => Or.inl rfl) rfl) (tc_one (tt_cmp (fun _ => op_eq) v_eqS (tx_prj (n := 0) unp_ent .zero (tx_im (i := 2) rfl (fun _ => rfl) (fun _ => by first | exact Or.inl rfl | exact Or.inr (Or.inl rfl) | exact Or.inr (Or.inr rfl)))) (tx_im (i := 1) rfl (fun _ => rfl) (fun _ => by first | exact Or.inl rfl | exact Or.inr (Or.inl rfl) | exact Or.inr (Or.inr rfl))) (nomark _))) (tx_im (i := 2) rfl (fun _ => rfl) (fun _ => by first | exact Or.inl rfl | exact Or.inr (Or.inl rfl) | exact Or.inr (Or.inr rfl))))) tx_int (fun _ _ => rfl))) ts_nil) (by decide) rfl (by exact h)⟩
noncomputable def w_law_entry := wT (() : Loc_law_entry) d_law_entry.1
theorem mw_law_entry : ∀ x k k', (∀ y, k y → k' y) → w_law_entry x k → w_law_entry x k' := up_mono
theorem ca_law_entry {P : Program} {ww : World} {K : PySem.W.Frag} {mg : Str → Option Value} {base : Heap} (F : Facts K mg) : Ca P ww K mg base CX0 1 "_law_entry" (spT K (.cons baseR (.cons strR .nil)) (retI entR) w_law_entry) := d_law_entry.2 F
structure Loc_law_day where
  name : Str := ""
  wishes : (List Str) := []
  back : Str := ""
  later : (List Str) := []
  worn : (List Str) := []
  found : Int := 0
  above : (List Str) := []

noncomputable def d_law_day : { wb : (Bs × (List Str) × Str × Unit) × Loc_law_day → Kn ((Bs × (List Str) × Str × Unit) × Loc_law_day) (Int × (List Str)) → Prop // ∀ {P : Program} {ww : World} {K : PySem.W.Frag} {mg : Str → Option Value} {base : Heap}, Facts K mg → Ca P ww K mg base CX0 2 "_law_day" (spT K (.cons baseR (.cons (tupR strR) (.cons strR .nil))) (retI (prR intR (tupR strR))) (wT ({} : Loc_law_day) wb)) } :=
  ⟨_, fun {P ww K mg base} F => by
    obtain ⟨fd, D⟩ := fun_law_day F
    refine ⟨_, fd, ["base", "packing", "weather"], D.ok sc_law_day (fun vs H Q E h => spT_len h) (fun cdv A outer s H vs Q E hr h => ?_), D.bindsN fun _ _ _ _ _ _ us hl => match us, hl with | [_, _, _], _ => rfl, g__law_day F, D.kp⟩
    have hu := hu_of hr
    refine body_wT (K := K) (A := (.cons baseR (.cons (tupR strR) (.cons strR .nil)))) (R := retI (prR intR (tupR strR))) (Λ := Loc_law_day) (l0 := {}) (L' := [.im baseR (fun e => e.1.1), .im (tupR strR) (fun e => e.1.2.1), .im strR (fun e => e.1.2.2.1), .any, .im strR (fun e => e.2.name), .im (tupR strR) (fun e => e.2.wishes), .im strR (fun e => e.2.back), .im (tupR strR) (fun e => e.2.later), .ow strR (fun e => e.2.worn), .im intR (fun e => e.2.found), .any, .any]) (n := 9) (ts_cons (ts_unp (set := fun e y => (e.1, { e.2 with name := y.name, wishes := y.wishes, back := y.back, later := y.later })) (L' := [.im baseR (fun e => e.1.1), .im (tupR strR) (fun e => e.1.2.1), .im strR (fun e => e.1.2.2.1), .any, .im strR (fun e => e.2.name), .im (tupR strR) (fun e => e.2.wishes), .im strR (fun e => e.2.back), .im (tupR strR) (fun e => e.2.later), .any, .any, .any, .any]) (tx_call (k := 1) (fun _ => ca_law_entry F) (mw_law_entry) (fun _ => hr.mono (by decide)) (fun _ => rfl) (ta_cons (tx_im (i := 0) rfl (fun _ => rfl) (fun _ => Or.inl rfl)) (ta_cons (tx_im (i := 2) rfl (fun _ => rfl) (fun _ => Or.inl rfl)) ta_nil))) (tgt_tup (is := [4, 5, 6, 7]) unp_ent (fun _ => (pgs_cons (pg_name (i := 4) sc_law_day.nd rfl (Or.inl rfl)) (pgs_cons (pg_name (i := 5) sc_law_day.nd rfl (Or.inl rfl)) (pgs_cons (pg_name (i := 6) sc_law_day.nd rfl (Or.inl rfl)) (pgs_cons (pg_name (i := 7) sc_law_day.nd rfl (Or.inl rfl)) pgs_nil))))) (fun _ => rfl) rfl (allB rfl)) (.im (fun _ => rfl) (.im (fun _ => rfl) (.im (fun _ => rfl) (.any rfl (.im (fun _ => rfl) (.im (fun _ => rfl) (.im (fun _ => rfl) (.im (fun _ => rfl) (.any rfl (.any rfl (.any rfl (.any rfl .nil)))))))))))))
    (ts_cons (ts_parOIc (i := 8) (j := 9) (set := fun e y => (e.1, { e.2 with worn := y.1, found := y.2 })) (L' := [.im baseR (fun e => e.1.1), .im (tupR strR) (fun e => e.1.2.1), .im strR (fun e => e.1.2.2.1), .any, .im strR (fun e => e.2.name), .im (tupR strR) (fun e => e.2.wishes), .im strR (fun e => e.2.back), .im (tupR strR) (fun e => e.2.later), .ow strR (fun e => e.2.worn), .im intR (fun e => e.2.found), .any, .any]) (fun _ => rfl) (fun _ => sc_law_day.nd) (fun _ => rfl) (fun _ => rfl) (by decide) (fun _ => (Or.inr rfl)) (fun _ => (Or.inl rfl)) (tn_lst ta_nil (lo_nil (S := strR))) tx_int rfl rfl (.im (fun _ => rfl) (.im (fun _ => rfl) (.im (fun _ => rfl) (.any rfl (.im (fun _ => rfl) (.im (fun _ => rfl) (.im (fun _ => rfl) (.im (fun _ => rfl) (.ow (fun _ => rfl) (.im (fun _ => rfl) (.any rfl (.any rfl .nil)))))))))))) (by intro _; rfl))
    (ts_cons (ts_for (fun _ => PassesOwn.never) (fun _ => rfl) (it_tup (tx_im (i := 5) rfl (fun _ => rfl) (fun _ => Or.inl rfl))) (tgt_name (i := 3) (fun _ => sc_law_day.nd) (fun _ => rfl) (fun _ => (Or.inl rfl)) rfl)
    (ts_cons (ts_set (i := 10) (set := (fun e y => ((e.1.1, { e.1.2 with above := y }), e.2))) (L' := [.im baseR (fun e => e.1.1.1), .im (tupR strR) (fun e => e.1.1.2.1), .im strR (fun e => e.1.1.2.2.1), .im strR (fun e => e.2), .im strR (fun e => e.1.2.name), .im (tupR strR) (fun e => e.1.2.wishes), .im strR (fun e => e.1.2.back), .im (tupR strR) (fun e => e.1.2.later), .ow strR (fun e => e.1.2.worn), .im intR (fun e => e.1.2.found), .im (lstR strR) (fun e => e.1.2.above), .any]) (fun _ => sc_law_day.nd) (fun _ => rfl) (fun _ => (Or.inl rfl)) (TN.tx (tn_slice (TN.tx (tn_callTy (fun _ => call_listK rfl) vc_listT (fun _ => rfl) (fun _ => z_list F) (by decide +kernel) (ta_cons (tx_im (i := 1) rfl (fun _ => rfl) (fun _ => Or.inl rfl)) ta_nil))) to_none (to_some (tx_index (TN.tx (tn_callTy (fun _ => call_listK rfl) vc_listT (fun _ => rfl) (fun _ => z_list F) (by decide +kernel) (ta_cons (tx_im (i := 1) rfl (fun _ => rfl) (fun _ => Or.inl rfl)) ta_nil))) (tx_im (i := 3) rfl (fun _ => rfl) (fun _ => Or.inl rfl)))))) (okI_lift rfl) (.im (fun _ => rfl) (.im (fun _ => rfl) (.im (fun _ => rfl) (.im (fun _ => rfl) (.im (fun _ => rfl) (.im (fun _ => rfl) (.im (fun _ => rfl) (.im (fun _ => rfl) (.ow (fun _ => rfl) (.im (fun _ => rfl) (.im (fun _ => rfl) (.any rfl .nil)))))))))))))
    (ts_cons (ts_set (i := 9) (set := (fun e y => ((e.1.1, { e.1.2 with found := y }), e.2))) (L' := [.im baseR (fun e => e.1.1.1), .im (tupR strR) (fun e => e.1.1.2.1), .im strR (fun e => e.1.1.2.2.1), .im strR (fun e => e.2), .im strR (fun e => e.1.2.name), .im (tupR strR) (fun e => e.1.2.wishes), .im strR (fun e => e.1.2.back), .im (tupR strR) (fun e => e.1.2.later), .ow strR (fun e => e.1.2.worn), .im intR (fun e => e.1.2.found), .im (lstR strR) (fun e => e.1.2.above), .any]) (fun _ => sc_law_day.nd) (fun _ => rfl) (fun _ => (Or.inl rfl)) (tx_view (L2 := [.im baseR (fun e => e.1.1.1), .im (tupR strR) (fun e => e.1.1.2.1), .im strR (fun e => e.1.1.2.2.1), .im strR (fun e => e.2), .im strR (fun e => e.1.2.name), .im (tupR strR) (fun e => e.1.2.wishes), .im strR (fun e => e.1.2.back), .im (tupR strR) (fun e => e.1.2.later), .im (lstR strR) (fun e => e.1.2.worn), .im intR (fun e => e.1.2.found), .im (lstR strR) (fun e => e.1.2.above), .any]) intR.flat (.im (fun _ => rfl) (.im (fun _ => rfl) (.im (fun _ => rfl) (.im (fun _ => rfl) (.im (fun _ => rfl) (.im (fun _ => rfl) (.im (fun _ => rfl) (.im (fun _ => rfl) (.fr (fun _ => rfl) (.im (fun _ => rfl) (.im (fun _ => rfl) (.any rfl .nil)))))))))))) (tx_op (fun _ => op_add) v_I0 (tx_im (i := 9) rfl (fun _ => rfl) (fun _ => Or.inl rfl)) (tx_callB (fun _ => call_lenK rfl) vc_lenL (fun _ => rfl) (fun _ => z_len F) boot_len (ta_cons (TN.tx (tn_comp (bown := [("one", 11)]) (fun _ => rfl) (fun _ => sc_law_day.nd) (it_list (tx_im (i := 10) rfl (fun _ => rfl) (fun _ => Or.inl rfl))) (fun _ => blkOk_by (own := [("one", 11)]) (N := ["base", "packing", "weather", "thing", "name", "wishes", "back", "later", "worn", "found", "above", "one"]) (sc := defScope s_law_day) (by decide +kernel)) (allB rfl) (by decide) (tgt_name (i := 11) (fun _ => sc_law_day.nd) (fun _ => rfl) (fun _ => Or.inl rfl) rfl) (tc_one (tt_cmp (fun _ => (op_notIn_seqK rfl)) v_ninL (tx_im (i := 11) rfl (fun _ => rfl) (fun _ => by first | exact Or.inl rfl | exact Or.inr (Or.inl rfl) | exact Or.inr (Or.inr rfl))) (tx_im (i := 8) rfl (fun _ => rfl) (fun _ => by first | exact Or.inl rfl | exact Or.inr (Or.inl rfl) | exact Or.inr (Or.inr rfl))) (by rfl))) (tx_im (i := 11) rfl (fun _ => rfl) (fun _ => by first | exact Or.inl rfl | exact Or.inr (Or.inl rfl) | exact Or.inr (Or.inr rfl))))) ta_nil)))) (okI_lift rfl) (.im (fun _ => rfl) (.im (fun _ => rfl) (.im (fun _ => rfl) (.im (fun _ => rfl) (.im (fun _ => rfl) (.im (fun _ => rfl) (.im (fun _ => rfl) (.im (fun _ => rfl) (.ow (fun _ => rfl) (.im (fun _ => rfl) (.im (fun _ => rfl) (.any rfl .nil)))))))))))))
    (ts_cons (ts_append (i := 8) (set := (fun e y => ((e.1.1, { e.1.2 with worn := y }), e.2))) (L' := [.im baseR (fun e => e.1.1.1), .im (tupR strR) (fun e => e.1.1.2.1), .im strR (fun e => e.1.1.2.2.1), .im strR (fun e => e.2), .im strR (fun e => e.1.2.name), .im (tupR strR) (fun e => e.1.2.wishes), .im strR (fun e => e.1.2.back), .im (tupR strR) (fun e => e.1.2.later), .ow strR (fun e => e.1.2.worn), .im intR (fun e => e.1.2.found), .im (lstR strR) (fun e => e.1.2.above), .any]) rfl (fun _ => rfl) (fun _ => Or.inr (Or.inl rfl)) (tx_im (i := 3) rfl (fun _ => rfl) (fun _ => Or.inl rfl)) (.im (fun _ => rfl) (.im (fun _ => rfl) (.im (fun _ => rfl) (.im (fun _ => rfl) (.im (fun _ => rfl) (.im (fun _ => rfl) (.im (fun _ => rfl) (.im (fun _ => rfl) (.ow (fun _ => rfl) (.im (fun _ => rfl) (.im (fun _ => rfl) (.any rfl .nil))))))))))))) ts_nil)))
    (.im (fun _ => rfl) (.im (fun _ => rfl) (.im (fun _ => rfl) (.any rfl (.im (fun _ => rfl) (.im (fun _ => rfl) (.im (fun _ => rfl) (.im (fun _ => rfl) (.ow (fun _ => rfl) (.im (fun _ => rfl) (.any rfl (.any rfl .nil)))))))))))))
    (ts_cons (ts_if (tt_cmp (fun _ => op_eq) v_eqS (tx_im (i := 6) rfl (fun _ => rfl) (fun _ => Or.inl rfl)) tx_str (nomark _)) (ts_cons (ts_ret (tx_tup (ta_cons (tx_im (i := 9) rfl (fun _ => rfl) (fun _ => Or.inl rfl)) (ta_cons (tx_callTy (fun _ => call_tuple_ofK rfl) vc_tupT (fun _ => rfl) (fun _ => z_tuple F) (by decide +kernel) (ta_cons (tx_im (i := 1) rfl (fun _ => rfl) (fun _ => Or.inl rfl)) ta_nil)) ta_nil)) tu_pr)) ts_nil) ts_nil)
    (ts_cons (TS1.pre (L := [.im baseR (fun e => e.1.1), .im (tupR strR) (fun e => e.1.2.1), .im strR (fun e => e.1.2.2.1), .any, .im strR (fun e => e.2.name), .im (tupR strR) (fun e => e.2.wishes), .im strR (fun e => e.2.back), .im (tupR strR) (fun e => e.2.later), .im (lstR strR) (fun e => e.2.worn), .im intR (fun e => e.2.found), .any, .any]) (.im (fun _ => rfl) (.im (fun _ => rfl) (.im (fun _ => rfl) (.any rfl (.im (fun _ => rfl) (.im (fun _ => rfl) (.im (fun _ => rfl) (.im (fun _ => rfl) (.fr (fun _ => rfl) (.im (fun _ => rfl) (.any rfl (.any rfl .nil)))))))))))) (ts_ret (tx_tup (ta_cons (tx_im (i := 9) rfl (fun _ => rfl) (fun _ => Or.inl rfl)) (ta_cons (tx_callTy (fun _ => call_tuple_ofK rfl) vc_tupL (fun _ => rfl) (fun _ => z_tuple F) (by decide +kernel) (ta_cons (TN.tx (tn_op (fun _ => op_cat) v_cat (TN.tx (tn_revL (tx_im (i := 8) rfl (fun _ => rfl) (fun _ => Or.inr (Or.inl rfl))))) (TN.tx (tn_comp (bown := [("one", 11)]) (fun _ => rfl) (fun _ => sc_law_day.nd) (it_tup (tx_im (i := 1) rfl (fun _ => rfl) (fun _ => Or.inl rfl))) (fun _ => blkOk_by (own := [("one", 11)]) (N := ["base", "packing", "weather", "thing", "name", "wishes", "back", "later", "worn", "found", "above", "one"]) (sc := defScope s_law_day) (by decide +kernel)) (allB rfl) (by decide) (tgt_name (i := 11) (fun _ => sc_law_day.nd) (fun _ => rfl) (fun _ => Or.inl rfl) rfl) (tc_one (tt_cmp (fun _ => (op_notIn_seqK rfl)) v_ninL (tx_im (i := 11) rfl (fun _ => rfl) (fun _ => by first | exact Or.inl rfl | exact Or.inr (Or.inl rfl) | exact Or.inr (Or.inr rfl))) (tx_im (i := 8) rfl (fun _ => rfl) (fun _ => by first | exact Or.inl rfl | exact Or.inr (Or.inl rfl) | exact Or.inr (Or.inr rfl))) (by rfl))) (tx_im (i := 11) rfl (fun _ => rfl) (fun _ => by first | exact Or.inl rfl | exact Or.inr (Or.inl rfl) | exact Or.inr (Or.inr rfl))))))) ta_nil)) ta_nil)) tu_pr))) ts_nil))))) (by decide) rfl (by exact h)⟩
noncomputable def w_law_day := wT ({} : Loc_law_day) d_law_day.1
theorem mw_law_day : ∀ x k k', (∀ y, k y → k' y) → w_law_day x k → w_law_day x k' := up_mono
theorem ca_law_day {P : Program} {ww : World} {K : PySem.W.Frag} {mg : Str → Option Value} {base : Heap} (F : Facts K mg) : Ca P ww K mg base CX0 2 "_law_day" (spT K (.cons baseR (.cons (tupR strR) (.cons strR .nil))) (retI (prR intR (tupR strR))) w_law_day) := d_law_day.2 F
structure Loc_law_rows where
  now : (List (((List Str) × Str) × Int)) := []
  later : (List (((List Str) × Str) × Int)) := []
  found : Int := 0
  left_here : (List Str) := []
  total : Int := 0
  key : ((List Str) × Str) := ([], "")
  totals : (List Int) := []

noncomputable def d_law_rows : { wb : (Bs × (List Str) × Int × Int × Unit) × Loc_law_rows → Kn ((Bs × (List Str) × Int × Int × Unit) × Loc_law_rows) Int → Prop // ∀ {P : Program} {ww : World} {K : PySem.W.Frag} {mg : Str → Option Value} {base : Heap}, Facts K mg → Ca P ww K mg base CX0 3 "_law_rows" (spT K (.cons baseR (.cons (tupR strR) (.cons intR (.cons intR .nil)))) (retI intR) (wT ({} : Loc_law_rows) wb)) } :=
  ⟨_, fun {P ww K mg base} F => by
    obtain ⟨fd, D⟩ := fun_law_rows F
    refine ⟨_, fd, ["base", "packing", "days", "side"], D.ok sc_law_rows (fun vs H Q E h => spT_len h) (fun cdv A outer s H vs Q E hr h => ?_), D.bindsN fun _ _ _ _ _ _ us hl => match us, hl with | [_, _, _, _], _ => rfl, g__law_rows F, D.kp⟩
    have hu := hu_of hr
    refine body_wT (K := K) (A := (.cons baseR (.cons (tupR strR) (.cons intR (.cons intR .nil))))) (R := retI intR) (Λ := Loc_law_rows) (l0 := {}) (L' := [.im baseR (fun e => e.1.1), .im (tupR strR) (fun e => e.1.2.1), .im intR (fun e => e.1.2.2.1), .im intR (fun e => e.1.2.2.2.1), .im (fdR P ww (prR (tupR strR) strR) (kPr (kTup NestedKey.text) NestedKey.text) intR) (fun e => e.2.now), .any, .im (lstR intR) (fun e => e.2.totals), .any, .any, .any, .any, .any, .any, .any]) (n := 10) (ts_cons (ts_oneD (i := 4) (set := (fun e y => (e.1, { e.2 with now := y }))) (L' := [.im baseR (fun e => e.1.1), .im (tupR strR) (fun e => e.1.2.1), .im intR (fun e => e.1.2.2.1), .im intR (fun e => e.1.2.2.2.1), .ox (ndR P ww (prR (tupR strR) strR) (kPr (kTup NestedKey.text) NestedKey.text) intR) (fun e => e.2.now), .any, .any, .any, .any, .any, .any, .any, .any, .any]) (kr_pr (kv_tup kv_str) kv_str (by decide)) (fun _ => ⟨rfl, rfl, rfl⟩) (fun _ => Nat.lt_of_le_of_lt (Nat.add_le_add_left (by decide) _) (Room.u65 hr)) (fun _ => sc_law_rows.nd) (fun _ => rfl) (fun _ => (Or.inr rfl)) (tx_tup (ta_cons (tx_callTy (fun _ => call_tuple_ofK rfl) vc_tupT (fun _ => rfl) (fun _ => z_tuple F) (by decide +kernel) (ta_cons (tx_im (i := 1) rfl (fun _ => rfl) (fun _ => Or.inl rfl)) ta_nil)) (ta_cons (tx_prj (n := 0) unp_ent .zero (tx_ix (fun _ => (ix_tupK rfl)) v_ixT (tx_prj (n := 1) unp_base (.succ .zero) (tx_im (i := 0) rfl (fun _ => rfl) (fun _ => Or.inl rfl))) tx_int (fun _ _ => rfl))) ta_nil)) tu_pr) tx_int (okI_lift rfl) (.im (fun _ => rfl) (.im (fun _ => rfl) (.im (fun _ => rfl) (.im (fun _ => rfl) (.ox (fun _ => rfl) (.any rfl (.any rfl (.any rfl (.any rfl (.any rfl (.any rfl (.any rfl (.any rfl (.any rfl .nil)))))))))))))))
    (ts_cons (ts_for (fun _ => PassesOwn.never) (fun _ => rfl) (it_range1 (fun _ => rfl) (fun _ => z_range F) (tx_im (i := 2) rfl (fun _ => rfl) (fun _ => Or.inl rfl))) (tgt_name (i := 5) (fun _ => sc_law_rows.nd) (fun _ => rfl) (fun _ => (Or.inl rfl)) rfl)
    (ts_cons (ts_newD (i := 7) (set := (fun e y => ((e.1.1, { e.1.2 with later := y }), e.2))) (L' := [.im baseR (fun e => e.1.1.1), .im (tupR strR) (fun e => e.1.1.2.1), .im intR (fun e => e.1.1.2.2.1), .im intR (fun e => e.1.1.2.2.2.1), .ox (ndR P ww (prR (tupR strR) strR) (kPr (kTup NestedKey.text) NestedKey.text) intR) (fun e => e.1.2.now), .im intR (fun e => e.2), .any, .ox (ndR P ww (prR (tupR strR) strR) (kPr (kTup NestedKey.text) NestedKey.text) intR) (fun e => e.1.2.later), .any, .any, .any, .any, .any, .any]) (fun _ => ⟨rfl, rfl⟩) (fun _ => sc_law_rows.nd) (fun _ => rfl) (fun _ => (Or.inl rfl)) (okI_lift rfl) (.im (fun _ => rfl) (.im (fun _ => rfl) (.im (fun _ => rfl) (.im (fun _ => rfl) (.ox (fun _ => rfl) (.im (fun _ => rfl) (.any rfl (.ox (fun _ => rfl) (.any rfl (.any rfl (.any rfl (.any rfl (.any rfl (.any rfl .nil)))))))))))))))
    (ts_cons (TS1.preD (i := 4) (L1 := [.im baseR (fun e => e.1.1.1), .im (tupR strR) (fun e => e.1.1.2.1), .im intR (fun e => e.1.1.2.2.1), .im intR (fun e => e.1.1.2.2.2.1), .im (fdR P ww (prR (tupR strR) strR) (kPr (kTup NestedKey.text) NestedKey.text) intR) (fun e => e.1.2.now), .im intR (fun e => e.2), .any, .ox (ndR P ww (prR (tupR strR) strR) (kPr (kTup NestedKey.text) NestedKey.text) intR) (fun e => e.1.2.later), .any, .any, .any, .any, .any, .any]) rfl rfl (ts_for (fun _ => PassesOwn.never) (fun _ => rfl) (it_fd (fun _ => ⟨rfl, rfl⟩) (tx_im (i := 4) rfl (fun _ => rfl) (fun _ => Or.inr (Or.inl rfl)))) (tgt_name (i := 8) (fun _ => sc_law_rows.nd) (fun _ => rfl) (fun _ => (Or.inl rfl)) rfl)
    (ts_cons (ts_unp (set := fun e y => (((e.1.1.1, { e.1.1.2 with found := y.1, left_here := y.2 }), e.1.2), e.2)) (L' := [.im baseR (fun e => e.1.1.1.1), .im (tupR strR) (fun e => e.1.1.1.2.1), .im intR (fun e => e.1.1.1.2.2.1), .im intR (fun e => e.1.1.1.2.2.2.1), .im (fdR P ww (prR (tupR strR) strR) (kPr (kTup NestedKey.text) NestedKey.text) intR) (fun e => e.1.1.2.now), .im intR (fun e => e.1.2), .any, .ox (ndR P ww (prR (tupR strR) strR) (kPr (kTup NestedKey.text) NestedKey.text) intR) (fun e => e.1.1.2.later), .im (prR (tupR strR) strR) (fun e => e.2), .any, .im intR (fun e => e.1.1.2.found), .im (tupR strR) (fun e => e.1.1.2.left_here), .any, .any]) (tx_call (k := 2) (fun _ => ca_law_day F) (mw_law_day) (fun _ => hr.mono (by decide)) (fun _ => rfl) (ta_cons (tx_im (i := 0) rfl (fun _ => rfl) (fun _ => Or.inl rfl)) (ta_cons (tx_prj (n := 0) unp_pr .zero (tx_im (i := 8) rfl (fun _ => rfl) (fun _ => Or.inl rfl))) (ta_cons (tx_prj (n := 1) unp_pr (.succ .zero) (tx_im (i := 8) rfl (fun _ => rfl) (fun _ => Or.inl rfl))) ta_nil)))) (tgt_tup (is := [10, 11]) unp_pr (fun _ => (pgs_cons (pg_name (i := 10) sc_law_rows.nd rfl (Or.inl rfl)) (pgs_cons (pg_name (i := 11) sc_law_rows.nd rfl (Or.inl rfl)) pgs_nil))) (fun _ => rfl) rfl (allB rfl)) (.im (fun _ => rfl) (.im (fun _ => rfl) (.im (fun _ => rfl) (.im (fun _ => rfl) (.im (fun _ => rfl) (.im (fun _ => rfl) (.any rfl (.ox (fun _ => rfl) (.im (fun _ => rfl) (.any rfl (.im (fun _ => rfl) (.im (fun _ => rfl) (.any rfl (.any rfl .nil)))))))))))))))
    (ts_cons (ts_for (fun _ => PassesOwn.never) (fun _ => rfl) (it_tup (tx_prj (n := 3) unp_ent (.succ (.succ (.succ .zero))) (tx_call (k := 1) (fun _ => ca_law_entry F) (mw_law_entry) (fun _ => hr.mono (by decide)) (fun _ => rfl) (ta_cons (tx_im (i := 0) rfl (fun _ => rfl) (fun _ => Or.inl rfl)) (ta_cons (tx_prj (n := 1) unp_pr (.succ .zero) (tx_im (i := 8) rfl (fun _ => rfl) (fun _ => Or.inl rfl))) ta_nil))))) (tgt_name (i := 9) (fun _ => sc_law_rows.nd) (fun _ => rfl) (fun _ => (Or.inl rfl)) rfl)
    (ts_cons (ts_set (i := 12) (set := (fun e y => ((((e.1.1.1.1, { e.1.1.1.2 with total := y }), e.1.1.2), e.1.2), e.2))) (L' := [.im baseR (fun e => e.1.1.1.1.1), .im (tupR strR) (fun e => e.1.1.1.1.2.1), .im intR (fun e => e.1.1.1.1.2.2.1), .im intR (fun e => e.1.1.1.1.2.2.2.1), .im (fdR P ww (prR (tupR strR) strR) (kPr (kTup NestedKey.text) NestedKey.text) intR) (fun e => e.1.1.1.2.now), .im intR (fun e => e.1.1.2), .any, .ox (ndR P ww (prR (tupR strR) strR) (kPr (kTup NestedKey.text) NestedKey.text) intR) (fun e => e.1.1.1.2.later), .im (prR (tupR strR) strR) (fun e => e.1.2), .im strR (fun e => e.2), .im intR (fun e => e.1.1.1.2.found), .im (tupR strR) (fun e => e.1.1.1.2.left_here), .im intR (fun e => e.1.1.1.2.total), .any]) (fun _ => sc_law_rows.nd) (fun _ => rfl) (fun _ => (Or.inl rfl)) (tx_op (fun _ => op_add) v_I0 (tx_fdix (kr_pr (kv_tup kv_str) kv_str (by decide)) (fun _ => ⟨rfl, rfl, rfl⟩) (fun _ => Nat.lt_of_le_of_lt (Nat.add_le_add_left (by decide) _) (Room.u65 hr)) (tx_im (i := 4) rfl (fun _ => rfl) (fun _ => Or.inr (Or.inl rfl))) (tx_im (i := 8) rfl (fun _ => rfl) (fun _ => Or.inl rfl)) (fun _ _ => rfl)) (tx_im (i := 10) rfl (fun _ => rfl) (fun _ => Or.inl rfl))) (okI_lift rfl) (.im (fun _ => rfl) (.im (fun _ => rfl) (.im (fun _ => rfl) (.im (fun _ => rfl) (.im (fun _ => rfl) (.im (fun _ => rfl) (.any rfl (.ox (fun _ => rfl) (.im (fun _ => rfl) (.im (fun _ => rfl) (.im (fun _ => rfl) (.im (fun _ => rfl) (.im (fun _ => rfl) (.any rfl .nil)))))))))))))))
    (ts_cons (ts_set (i := 13) (set := (fun e y => ((((e.1.1.1.1, { e.1.1.1.2 with key := y }), e.1.1.2), e.1.2), e.2))) (L' := [.im baseR (fun e => e.1.1.1.1.1), .im (tupR strR) (fun e => e.1.1.1.1.2.1), .im intR (fun e => e.1.1.1.1.2.2.1), .im intR (fun e => e.1.1.1.1.2.2.2.1), .im (fdR P ww (prR (tupR strR) strR) (kPr (kTup NestedKey.text) NestedKey.text) intR) (fun e => e.1.1.1.2.now), .im intR (fun e => e.1.1.2), .any, .ox (ndR P ww (prR (tupR strR) strR) (kPr (kTup NestedKey.text) NestedKey.text) intR) (fun e => e.1.1.1.2.later), .im (prR (tupR strR) strR) (fun e => e.1.2), .im strR (fun e => e.2), .im intR (fun e => e.1.1.1.2.found), .im (tupR strR) (fun e => e.1.1.1.2.left_here), .im intR (fun e => e.1.1.1.2.total), .im (prR (tupR strR) strR) (fun e => e.1.1.1.2.key)]) (fun _ => sc_law_rows.nd) (fun _ => rfl) (fun _ => (Or.inl rfl)) (tx_tup (ta_cons (tx_im (i := 11) rfl (fun _ => rfl) (fun _ => Or.inl rfl)) (ta_cons (tx_im (i := 9) rfl (fun _ => rfl) (fun _ => Or.inl rfl)) ta_nil)) tu_pr) (okI_lift rfl) (.im (fun _ => rfl) (.im (fun _ => rfl) (.im (fun _ => rfl) (.im (fun _ => rfl) (.im (fun _ => rfl) (.im (fun _ => rfl) (.any rfl (.ox (fun _ => rfl) (.im (fun _ => rfl) (.im (fun _ => rfl) (.im (fun _ => rfl) (.im (fun _ => rfl) (.im (fun _ => rfl) (.im (fun _ => rfl) .nil)))))))))))))))
    (ts_cons (ts_if (TTW.tt (tw_or (tt_inD true (i := 7) (kr_pr (kv_tup kv_str) kv_str (by decide)) rfl (fun _ => rfl) (fun _ => Or.inl rfl) (fun _ => ⟨rfl, rfl, rfl⟩) (fun _ => Nat.lt_of_le_of_lt (Nat.add_le_add_left (by decide) _) (Room.u65 hr)) (tx_im (i := 13) rfl (fun _ => rfl) (fun _ => Or.inl rfl))) (tw_one_or (tt_cmp (fun _ => op_gt) v_B0 (tx_op (fun _ => op_mul) v_I (tx_op (fun _ => op_sub) v_I0 (tx_im (i := 12) rfl (fun _ => rfl) (fun _ => Or.inl rfl)) (tx_ixD (i := 7) (kr_pr (kv_tup kv_str) kv_str (by decide)) rfl (fun _ => rfl) (fun _ => Or.inl rfl) (fun _ => ⟨rfl, rfl, rfl⟩) (fun _ => Nat.lt_of_le_of_lt (Nat.add_le_add_left (by decide) _) (Room.u65 hr)) (tx_im (i := 13) rfl (fun _ => rfl) (fun _ => Or.inl rfl)) (fun _ _ => rfl))) (tx_im (i := 3) rfl (fun _ => rfl) (fun _ => Or.inl rfl))) tx_int (nomark _))))) (TS.sub (L2 := ([.im baseR (fun e => e.1.1.1.1.1), .im (tupR strR) (fun e => e.1.1.1.1.2.1), .im intR (fun e => e.1.1.1.1.2.2.1), .im intR (fun e => e.1.1.1.1.2.2.2.1), .im (fdR P ww (prR (tupR strR) strR) (kPr (kTup NestedKey.text) NestedKey.text) intR) (fun e => e.1.1.1.2.now), .im intR (fun e => e.1.1.2), .any, .ox (ndR P ww (prR (tupR strR) strR) (kPr (kTup NestedKey.text) NestedKey.text) intR) (fun e => e.1.1.1.2.later), .im (prR (tupR strR) strR) (fun e => e.1.2), .im strR (fun e => e.2), .im intR (fun e => e.1.1.1.2.found), .im (tupR strR) (fun e => e.1.1.1.2.left_here), .im intR (fun e => e.1.1.1.2.total), .im (prR (tupR strR) strR) (fun e => e.1.1.1.2.key)] : List (Sl (((((Bs × (List Str) × Int × Int × Unit) × Loc_law_rows) × Int) × ((List Str) × Str)) × Str)))) (ts_cons (ts_putD2 (i := 7) (set := (fun e y => ((((e.1.1.1.1, { e.1.1.1.2 with later := y }), e.1.1.2), e.1.2), e.2))) (L' := [.im baseR (fun e => e.1.1.1.1.1), .im (tupR strR) (fun e => e.1.1.1.1.2.1), .im intR (fun e => e.1.1.1.1.2.2.1), .im intR (fun e => e.1.1.1.1.2.2.2.1), .im (fdR P ww (prR (tupR strR) strR) (kPr (kTup NestedKey.text) NestedKey.text) intR) (fun e => e.1.1.1.2.now), .im intR (fun e => e.1.1.2), .any, .ox (ndR P ww (prR (tupR strR) strR) (kPr (kTup NestedKey.text) NestedKey.text) intR) (fun e => e.1.1.1.2.later), .im (prR (tupR strR) strR) (fun e => e.1.2), .im strR (fun e => e.2), .im intR (fun e => e.1.1.1.2.found), .im (tupR strR) (fun e => e.1.1.1.2.left_here), .im intR (fun e => e.1.1.1.2.total), .im (prR (tupR strR) strR) (fun e => e.1.1.1.2.key)]) (kr_pr (kv_tup kv_str) kv_str (by decide)) rfl (fun _ => rfl) (fun _ => Or.inl rfl) (fun _ => ⟨rfl, rfl, rfl⟩) (fun _ => Nat.lt_of_le_of_lt (Nat.add_le_add_left (by decide) _) (Room.u65 hr)) (tx_im (i := 12) rfl (fun _ => rfl) (fun _ => Or.inl rfl)) (tx_im (i := 13) rfl (fun _ => rfl) (fun _ => Or.inl rfl)) (.im (fun _ => rfl) (.im (fun _ => rfl) (.im (fun _ => rfl) (.im (fun _ => rfl) (.im (fun _ => rfl) (.im (fun _ => rfl) (.any rfl (.ox (fun _ => rfl) (.im (fun _ => rfl) (.im (fun _ => rfl) (.im (fun _ => rfl) (.im (fun _ => rfl) (.im (fun _ => rfl) (.im (fun _ => rfl) .nil))))))))))))))) ts_nil) (.im (fun _ => rfl) (.im (fun _ => rfl) (.im (fun _ => rfl) (.im (fun _ => rfl) (.im (fun _ => rfl) (.im (fun _ => rfl) (.any rfl (.ox (fun _ => rfl) (.im (fun _ => rfl) (.im (fun _ => rfl) (.im (fun _ => rfl) (.im (fun _ => rfl) (.im (fun _ => rfl) (.im (fun _ => rfl) .nil))))))))))))))) (TS.sub (L2 := ([.im baseR (fun e => e.1.1.1.1.1), .im (tupR strR) (fun e => e.1.1.1.1.2.1), .im intR (fun e => e.1.1.1.1.2.2.1), .im intR (fun e => e.1.1.1.1.2.2.2.1), .im (fdR P ww (prR (tupR strR) strR) (kPr (kTup NestedKey.text) NestedKey.text) intR) (fun e => e.1.1.1.2.now), .im intR (fun e => e.1.1.2), .any, .ox (ndR P ww (prR (tupR strR) strR) (kPr (kTup NestedKey.text) NestedKey.text) intR) (fun e => e.1.1.1.2.later), .im (prR (tupR strR) strR) (fun e => e.1.2), .im strR (fun e => e.2), .im intR (fun e => e.1.1.1.2.found), .im (tupR strR) (fun e => e.1.1.1.2.left_here), .im intR (fun e => e.1.1.1.2.total), .im (prR (tupR strR) strR) (fun e => e.1.1.1.2.key)] : List (Sl (((((Bs × (List Str) × Int × Int × Unit) × Loc_law_rows) × Int) × ((List Str) × Str)) × Str)))) ts_nil (.im (fun _ => rfl) (.im (fun _ => rfl) (.im (fun _ => rfl) (.im (fun _ => rfl) (.im (fun _ => rfl) (.im (fun _ => rfl) (.any rfl (.ox (fun _ => rfl) (.im (fun _ => rfl) (.im (fun _ => rfl) (.im (fun _ => rfl) (.im (fun _ => rfl) (.im (fun _ => rfl) (.im (fun _ => rfl) .nil)))))))))))))))) ts_nil)))
    (.im (fun _ => rfl) (.im (fun _ => rfl) (.im (fun _ => rfl) (.im (fun _ => rfl) (.im (fun _ => rfl) (.im (fun _ => rfl) (.any rfl (.ox (fun _ => rfl) (.im (fun _ => rfl) (.any rfl (.im (fun _ => rfl) (.im (fun _ => rfl) (.any rfl (.any rfl .nil))))))))))))))) ts_nil))
    (.im (fun _ => rfl) (.im (fun _ => rfl) (.im (fun _ => rfl) (.im (fun _ => rfl) (.im (fun _ => rfl) (.im (fun _ => rfl) (.any rfl (.ox (fun _ => rfl) (.any rfl (.any rfl (.any rfl (.any rfl (.any rfl (.any rfl .nil))))))))))))))))
    (ts_cons (ts_moveX (i := 4) (j := 7) (set := (fun e y => ((e.1.1, { e.1.2 with now := y }), e.2))) (L' := [.im baseR (fun e => e.1.1.1), .im (tupR strR) (fun e => e.1.1.2.1), .im intR (fun e => e.1.1.2.2.1), .im intR (fun e => e.1.1.2.2.2.1), .ox (ndR P ww (prR (tupR strR) strR) (kPr (kTup NestedKey.text) NestedKey.text) intR) (fun e => e.1.2.now), .im intR (fun e => e.2), .any, .any, .any, .any, .any, .any, .any, .any]) rfl rfl (by decide) (fun _ => sc_law_rows.nd) (fun _ => rfl) (fun _ => (Or.inr rfl)) (fun _ => rfl) (fun _ => Or.inl rfl) (.im (fun _ => rfl) (.im (fun _ => rfl) (.im (fun _ => rfl) (.im (fun _ => rfl) (.ox (fun _ => rfl) (.im (fun _ => rfl) (.any rfl (.any rfl (.any rfl (.any rfl (.any rfl (.any rfl (.any rfl (.any rfl .nil))))))))))))))) ts_nil)))
    (.im (fun _ => rfl) (.im (fun _ => rfl) (.im (fun _ => rfl) (.im (fun _ => rfl) (.ox (fun _ => rfl) (.any rfl (.any rfl (.any rfl (.any rfl (.any rfl (.any rfl (.any rfl (.any rfl (.any rfl .nil)))))))))))))))
    (ts_cons (TS1.preD (i := 4) (L1 := [.im baseR (fun e => e.1.1), .im (tupR strR) (fun e => e.1.2.1), .im intR (fun e => e.1.2.2.1), .im intR (fun e => e.1.2.2.2.1), .im (fdR P ww (prR (tupR strR) strR) (kPr (kTup NestedKey.text) NestedKey.text) intR) (fun e => e.2.now), .any, .any, .any, .any, .any, .any, .any, .any, .any]) rfl rfl (ts_set (i := 6) (set := (fun e y => (e.1, { e.2 with totals := y }))) (L' := [.im baseR (fun e => e.1.1), .im (tupR strR) (fun e => e.1.2.1), .im intR (fun e => e.1.2.2.1), .im intR (fun e => e.1.2.2.2.1), .im (fdR P ww (prR (tupR strR) strR) (kPr (kTup NestedKey.text) NestedKey.text) intR) (fun e => e.2.now), .any, .im (lstR intR) (fun e => e.2.totals), .any, .any, .any, .any, .any, .any, .any]) (fun _ => sc_law_rows.nd) (fun _ => rfl) (fun _ => (Or.inl rfl)) (TN.tx (tn_callB (fun _ => cr_sortedI) vc_sorted (fun _ => rfl) (fun _ => z_sorted F) (by decide +kernel) (ta_cons (TN.tx (tn_comp (bown := [("spot", 8)]) (fun _ => rfl) (fun _ => sc_law_rows.nd) (it_fd (fun _ => ⟨rfl, rfl⟩) (tx_im (i := 4) rfl (fun _ => rfl) (fun _ => Or.inr (Or.inl rfl)))) (fun _ => blkOk_by (own := [("spot", 8)]) (N := ["base", "packing", "days", "side", "now", "turn", "totals", "later", "spot", "weather", "found", "left_here", "total", "key"]) (sc := defScope s_law_rows) (by decide +kernel)) (allB rfl) (by decide) (tgt_name (i := 8) (fun _ => sc_law_rows.nd) (fun _ => rfl) (fun _ => Or.inl rfl) rfl) tc_no (tx_fdix (kr_pr (kv_tup kv_str) kv_str (by decide)) (fun _ => ⟨rfl, rfl, rfl⟩) (fun _ => Nat.lt_of_le_of_lt (Nat.add_le_add_left (by decide) _) (Room.u65 hr)) (tx_im (i := 4) rfl (fun _ => rfl) (fun _ => by first | exact Or.inl rfl | exact Or.inr (Or.inl rfl) | exact Or.inr (Or.inr rfl))) (tx_im (i := 8) rfl (fun _ => rfl) (fun _ => by first | exact Or.inl rfl | exact Or.inr (Or.inl rfl) | exact Or.inr (Or.inr rfl))) (fun _ _ => rfl)))) ta_nil))) (okI_lift rfl) (.im (fun _ => rfl) (.im (fun _ => rfl) (.im (fun _ => rfl) (.im (fun _ => rfl) (.im (fun _ => rfl) (.any rfl (.im (fun _ => rfl) (.any rfl (.any rfl (.any rfl (.any rfl (.any rfl (.any rfl (.any rfl .nil))))))))))))))))
    (ts_cons (ts_ret (tx_if (tt_cmp (fun _ => op_gt) v_B0 (tx_im (i := 3) rfl (fun _ => rfl) (fun _ => Or.inl rfl)) tx_int (nomark _)) (tx_ix (fun _ => (ix_listK rfl)) v_ixL (tx_im (i := 6) rfl (fun _ => rfl) (fun _ => Or.inl rfl)) (tx_neg tx_int) (fun _ _ => rfl)) (tx_ix (fun _ => (ix_listK rfl)) v_ixL (tx_im (i := 6) rfl (fun _ => rfl) (fun _ => Or.inl rfl)) tx_int (fun _ _ => rfl)))) ts_nil)))) (by decide) rfl (by exact h)⟩
noncomputable def w_law_rows := wT ({} : Loc_law_rows) d_law_rows.1
theorem mw_law_rows : ∀ x k k', (∀ y, k y → k' y) → w_law_rows x k → w_law_rows x k' := up_mono
theorem ca_law_rows {P : Program} {ww : World} {K : PySem.W.Frag} {mg : Str → Option Value} {base : Heap} (F : Facts K mg) : Ca P ww K mg base CX0 3 "_law_rows" (spT K (.cons baseR (.cons (tupR strR) (.cons intR (.cons intR .nil)))) (retI intR) w_law_rows) := d_law_rows.2 F
structure Loc_digs_forT where
  lying : (List Str) := []
  made : Int := 0
  above : Int := 0

noncomputable def d_digs_forT : { wb : ((List Str) × (List Str) × Unit) × Loc_digs_forT → Kn (((List Str) × (List Str) × Unit) × Loc_digs_forT) Int → Prop // ∀ {P : Program} {ww : World} {K : PySem.W.Frag} {mg : Str → Option Value} {base : Heap}, Facts K mg → Ca P ww K mg base CX0 1 "digs_for" (spT K (.cons (tupR strR) (.cons (lstR strR) .nil)) (retI intR) (wT ({} : Loc_digs_forT) wb)) } :=
  ⟨_, fun {P ww K mg base} F => by
    obtain ⟨fd, D⟩ := fun_digs_for F
    refine ⟨_, fd, ["lying", "wishes"], D.ok sc_digs_for (fun vs H Q E h => spT_len h) (fun cdv A outer s H vs Q E hr h => ?_), D.bindsN fun _ _ _ _ _ _ us hl => match us, hl with | [_, _], _ => rfl, g_digs_for F, D.kp⟩
    have hu := hu_of hr
    refine body_wT (K := K) (A := (.cons (tupR strR) (.cons (lstR strR) .nil))) (R := retI intR) (Λ := Loc_digs_forT) (l0 := {}) (L' := [.ow strR (fun e => e.2.lying), .im (lstR strR) (fun e => e.1.2.1), .im intR (fun e => e.2.made), .any, .any]) (n := 3) (ts_cons (ts_own (i := 0) (set := (fun e y => (e.1, { e.2 with lying := y }))) (L' := [.ow strR (fun e => e.2.lying), .im (lstR strR) (fun e => e.1.2.1), .any, .any, .any]) (fun _ => sc_digs_for.nd) (fun _ => rfl) (fun _ => (Or.inl rfl)) (tn_callTy (fun _ => call_listK rfl) vc_listT (fun _ => rfl) (fun _ => z_list F) (by decide +kernel) (ta_cons (tx_im (i := 0) rfl (fun _ => rfl) (fun _ => Or.inl rfl)) ta_nil)) (okI_lift rfl) (.ow (fun _ => rfl) (.im (fun _ => rfl) (.any rfl (.any rfl (.any rfl .nil))))))
    (ts_cons (ts_set (i := 2) (set := (fun e y => (e.1, { e.2 with made := y }))) (L' := [.ow strR (fun e => e.2.lying), .im (lstR strR) (fun e => e.1.2.1), .im intR (fun e => e.2.made), .any, .any]) (fun _ => sc_digs_for.nd) (fun _ => rfl) (fun _ => (Or.inl rfl)) tx_int (okI_lift rfl) (.ow (fun _ => rfl) (.im (fun _ => rfl) (.im (fun _ => rfl) (.any rfl (.any rfl .nil))))))
    (ts_cons (ts_for (fun _ => PassesOwn.never) (fun _ => rfl) (it_list (tx_im (i := 1) rfl (fun _ => rfl) (fun _ => Or.inl rfl))) (tgt_name (i := 3) (fun _ => sc_digs_for.nd) (fun _ => rfl) (fun _ => (Or.inl rfl)) rfl)
    (ts_cons (ts_set (i := 4) (set := (fun e y => ((e.1.1, { e.1.2 with above := y }), e.2))) (L' := [.ow strR (fun e => e.1.2.lying), .im (lstR strR) (fun e => e.1.1.2.1), .im intR (fun e => e.1.2.made), .im strR (fun e => e.2), .im intR (fun e => e.1.2.above)]) (fun _ => sc_digs_for.nd) (fun _ => rfl) (fun _ => (Or.inl rfl)) (tx_view (L2 := [.im (lstR strR) (fun e => e.1.2.lying), .im (lstR strR) (fun e => e.1.1.2.1), .im intR (fun e => e.1.2.made), .im strR (fun e => e.2), .any]) intR.flat (.fr (fun _ => rfl) (.im (fun _ => rfl) (.im (fun _ => rfl) (.im (fun _ => rfl) (.any rfl .nil))))) (tx_index (tx_im (i := 0) rfl (fun _ => rfl) (fun _ => Or.inl rfl)) (tx_im (i := 3) rfl (fun _ => rfl) (fun _ => Or.inl rfl)))) (okI_lift rfl) (.ow (fun _ => rfl) (.im (fun _ => rfl) (.im (fun _ => rfl) (.im (fun _ => rfl) (.im (fun _ => rfl) .nil))))))
    (ts_cons (ts_addI (i := 2) (set := (fun e y => ((e.1.1, { e.1.2 with made := y }), e.2))) (L' := [.ow strR (fun e => e.1.2.lying), .im (lstR strR) (fun e => e.1.1.2.1), .im intR (fun e => e.1.2.made), .im strR (fun e => e.2), .im intR (fun e => e.1.2.above)]) rfl (fun _ => sc_digs_for.nd) (fun _ => rfl) (fun _ => (Or.inl rfl)) (tx_im (i := 4) rfl (fun _ => rfl) (fun _ => Or.inl rfl)) (okI_lift rfl) (.ow (fun _ => rfl) (.im (fun _ => rfl) (.im (fun _ => rfl) (.im (fun _ => rfl) (.im (fun _ => rfl) .nil))))))
    (ts_cons (ts_popAt (i := 0) (set := (fun e y => ((e.1.1, { e.1.2 with lying := y }), e.2))) (L' := [.ow strR (fun e => e.1.2.lying), .im (lstR strR) (fun e => e.1.1.2.1), .im intR (fun e => e.1.2.made), .im strR (fun e => e.2), .im intR (fun e => e.1.2.above)]) rfl (fun _ => rfl) (fun _ => Or.inl rfl) (tx_im (i := 4) rfl (fun _ => rfl) (fun _ => Or.inl rfl)) (.ow (fun _ => rfl) (.im (fun _ => rfl) (.im (fun _ => rfl) (.im (fun _ => rfl) (.im (fun _ => rfl) .nil)))))) ts_nil)))
    (.ow (fun _ => rfl) (.im (fun _ => rfl) (.im (fun _ => rfl) (.any rfl (.any rfl .nil))))))
    (ts_cons (ts_ret (tx_im (i := 2) rfl (fun _ => rfl) (fun _ => Or.inl rfl))) ts_nil)))) (by decide) rfl (by exact h)⟩
noncomputable def w_digs_forT := wT ({} : Loc_digs_forT) d_digs_forT.1
theorem mw_digs_forT : ∀ x k k', (∀ y, k y → k' y) → w_digs_forT x k → w_digs_forT x k' := up_mono
theorem ca_digs_forT {P : Program} {ww : World} {K : PySem.W.Frag} {mg : Str → Option Value} {base : Heap} (F : Facts K mg) : Ca P ww K mg base CX0 1 "digs_for" (spT K (.cons (tupR strR) (.cons (lstR strR) .nil)) (retI intR) w_digs_forT) := d_digs_forT.2 F
abbrev Loc_put_behindT := Unit

noncomputable def d_put_behindT : { wb : ((List Str) × (List Str) × Str × Unit) × Loc_put_behindT → Kn (((List Str) × (List Str) × Str × Unit) × Loc_put_behindT) (List Str) → Prop // ∀ {P : Program} {ww : World} {K : PySem.W.Frag} {mg : Str → Option Value} {base : Heap}, Facts K mg → Ca P ww K mg base CX0 1 "put_behind" (spT K (.cons (tupR strR) (.cons (lstR strR) (.cons strR .nil))) (retN strR) (wT (() : Loc_put_behindT) wb)) } :=
  ⟨_, fun {P ww K mg base} F => by
    obtain ⟨fd, D⟩ := fun_put_behind F
    refine ⟨_, fd, ["lying", "wishes", "back"], D.ok sc_put_behind (fun vs H Q E h => spT_len h) (fun cdv A outer s H vs Q E hr h => ?_), D.bindsN fun _ _ _ _ _ _ us hl => match us, hl with | [_, _, _], _ => rfl, g_put_behind F, D.kp⟩
    have hu := hu_of hr
    refine body_wT (K := K) (A := (.cons (tupR strR) (.cons (lstR strR) (.cons strR .nil)))) (R := retN strR) (Λ := Loc_put_behindT) (l0 := ()) (L' := [.im (tupR strR) (fun e => e.1.1), .im (lstR strR) (fun e => e.1.2.1), .im strR (fun e => e.1.2.2.1), .any]) (n := 1) (ts_cons (ts_if (tt_cmp (fun _ => op_eq) v_eqS (tx_im (i := 2) rfl (fun _ => rfl) (fun _ => Or.inl rfl)) tx_str (nomark _)) (ts_cons (ts_retN (tn_callTy (fun _ => call_listK rfl) vc_listT (fun _ => rfl) (fun _ => z_list F) (by decide +kernel) (ta_cons (tx_im (i := 0) rfl (fun _ => rfl) (fun _ => Or.inl rfl)) ta_nil))) ts_nil) ts_nil)
    (ts_cons (ts_retN (tn_op (fun _ => op_cat) v_cat (TN.tx (tn_revL (tx_im (i := 1) rfl (fun _ => rfl) (fun _ => Or.inr (Or.inl rfl))))) (TN.tx (tn_comp (bown := [("thing", 3)]) (fun _ => rfl) (fun _ => sc_put_behind.nd) (it_tup (tx_im (i := 0) rfl (fun _ => rfl) (fun _ => Or.inl rfl))) (fun _ => blkOk_by (own := [("thing", 3)]) (N := ["lying", "wishes", "back", "thing"]) (sc := defScope s_put_behind) (by decide +kernel)) (allB rfl) (by decide) (tgt_name (i := 3) (fun _ => sc_put_behind.nd) (fun _ => rfl) (fun _ => Or.inl rfl) rfl) (tc_one (tt_cmp (fun _ => (op_notIn_seqK rfl)) v_ninL (tx_im (i := 3) rfl (fun _ => rfl) (fun _ => by first | exact Or.inl rfl | exact Or.inr (Or.inl rfl) | exact Or.inr (Or.inr rfl))) (tx_im (i := 1) rfl (fun _ => rfl) (fun _ => by first | exact Or.inl rfl | exact Or.inr (Or.inl rfl) | exact Or.inr (Or.inr rfl))) (by rfl))) (tx_im (i := 3) rfl (fun _ => rfl) (fun _ => by first | exact Or.inl rfl | exact Or.inr (Or.inl rfl) | exact Or.inr (Or.inr rfl))))))) ts_nil)) (by decide) rfl (by exact h)⟩
noncomputable def w_put_behindT := wT (() : Loc_put_behindT) d_put_behindT.1
theorem mw_put_behindT : ∀ x k k', (∀ y, k y → k' y) → w_put_behindT x k → w_put_behindT x k' := up_mono
theorem ca_put_behindT {P : Program} {ww : World} {K : PySem.W.Frag} {mg : Str → Option Value} {base : Heap} (F : Facts K mg) : Ca P ww K mg base CX0 1 "put_behind" (spT K (.cons (tupR strR) (.cons (lstR strR) (.cons strR .nil))) (retN strR) w_put_behindT) := d_put_behindT.2 F
structure Loc_live_through where
  wishes : (List Str) := []
  back : Str := ""
  later : (List Str) := []
  made : (List Int) := []
  lying : (List (List Str)) := []

noncomputable def d_live_through : { wb : ((List (List Str)) × ((List Str) × Str × (List Str)) × Unit) × Loc_live_through → Kn (((List (List Str)) × ((List Str) × Str × (List Str)) × Unit) × Loc_live_through) (Int × ((List (List Str)) × (List Str))) → Prop // ∀ {P : Program} {ww : World} {K : PySem.W.Frag} {mg : Str → Option Value} {base : Heap}, Facts K mg → Ca P ww K mg base CX0 2 "live_through" (spT K (.cons (tupR (tupR strR)) (.cons (triR (lstR strR) strR (tupR strR)) .nil)) (retI (prR intR (prR (tupR (tupR strR)) (tupR strR)))) (wT ({} : Loc_live_through) wb)) } :=
  ⟨_, fun {P ww K mg base} F => by
    obtain ⟨fd, D⟩ := fun_live_through F
    refine ⟨_, fd, ["packings", "day"], D.ok sc_live_through (fun vs H Q E h => spT_len h) (fun cdv A outer s H vs Q E hr h => ?_), D.bindsN fun _ _ _ _ _ _ us hl => match us, hl with | [_, _], _ => rfl, g_live_through F, D.kp⟩
    have hu := hu_of hr
    refine body_wT (K := K) (A := (.cons (tupR (tupR strR)) (.cons (triR (lstR strR) strR (tupR strR)) .nil))) (R := retI (prR intR (prR (tupR (tupR strR)) (tupR strR)))) (Λ := Loc_live_through) (l0 := {}) (L' := [.im (tupR (tupR strR)) (fun e => e.1.1), .im (triR (lstR strR) strR (tupR strR)) (fun e => e.1.2.1), .im (lstR intR) (fun e => e.2.made), .im (lstR (tupR strR)) (fun e => e.2.lying), .im (lstR strR) (fun e => e.2.wishes), .im strR (fun e => e.2.back), .im (tupR strR) (fun e => e.2.later), .any]) (n := 6) (ts_cons (ts_unp (set := fun e y => (e.1, { e.2 with wishes := y.1, back := y.2.1, later := y.2.2 })) (L' := [.im (tupR (tupR strR)) (fun e => e.1.1), .im (triR (lstR strR) strR (tupR strR)) (fun e => e.1.2.1), .any, .any, .im (lstR strR) (fun e => e.2.wishes), .im strR (fun e => e.2.back), .im (tupR strR) (fun e => e.2.later), .any]) (tx_im (i := 1) rfl (fun _ => rfl) (fun _ => Or.inl rfl)) (tgt_tup (is := [4, 5, 6]) unp_tri (fun _ => (pgs_cons (pg_name (i := 4) sc_live_through.nd rfl (Or.inr rfl)) (pgs_cons (pg_name (i := 5) sc_live_through.nd rfl (Or.inr rfl)) (pgs_cons (pg_name (i := 6) sc_live_through.nd rfl (Or.inl rfl)) pgs_nil)))) (fun _ => rfl) rfl (allB rfl)) (.im (fun _ => rfl) (.im (fun _ => rfl) (.any rfl (.any rfl (.im (fun _ => rfl) (.im (fun _ => rfl) (.im (fun _ => rfl) (.any rfl .nil)))))))))
    (ts_cons (ts_setC (set := (fun e y => (e.1, { e.2 with made := y }))) (L' := [.im (tupR (tupR strR)) (fun e => e.1.1), .im (triR (lstR strR) strR (tupR strR)) (fun e => e.1.2.1), .im (lstR intR) (fun e => e.2.made), .any, .im (lstR strR) (fun e => e.2.wishes), .im strR (fun e => e.2.back), .im (tupR strR) (fun e => e.2.later), .any]) (tna_comp (i := 2) (bown := [("packing", 7)]) (fun _ => rfl) (fun _ => sc_live_through.nd) (it_tup (tx_im (i := 0) rfl (fun _ => rfl) (fun _ => Or.inl rfl))) (fun _ => blkOk_by (own := [("packing", 7)]) (N := ["packings", "day", "made", "lying", "wishes", "back", "later", "packing"]) (sc := defScope s_live_through) (by decide +kernel)) (allB rfl) (by decide) (tgt_name (i := 7) (fun _ => sc_live_through.nd) (fun _ => rfl) (fun _ => Or.inl rfl) rfl) tc_no (tx_call (k := 1) (fun _ => ca_digs_forT F) (mw_digs_forT) (fun _ => hr.mono (by decide)) (fun _ => rfl) (ta_cons (tx_im (i := 7) rfl (fun _ => rfl) (fun _ => by first | exact Or.inl rfl | exact Or.inr (Or.inl rfl) | exact Or.inr (Or.inr rfl))) (ta_cons (tx_im (i := 4) rfl (fun _ => rfl) (fun _ => by first | exact Or.inl rfl | exact Or.inr (Or.inl rfl) | exact Or.inr (Or.inr rfl))) ta_nil))) (fun _ => rfl) (fun _ => rfl) (fun _ => sw_true rfl rfl rfl (by decide +kernel))) (okI_lift rfl) (.im (fun _ => rfl) (.im (fun _ => rfl) (.im (fun _ => rfl) (.any rfl (.im (fun _ => rfl) (.im (fun _ => rfl) (.im (fun _ => rfl) (.any rfl .nil)))))))))
    (ts_cons (ts_setC (set := (fun e y => (e.1, { e.2 with lying := y }))) (L' := [.im (tupR (tupR strR)) (fun e => e.1.1), .im (triR (lstR strR) strR (tupR strR)) (fun e => e.1.2.1), .im (lstR intR) (fun e => e.2.made), .im (lstR (tupR strR)) (fun e => e.2.lying), .im (lstR strR) (fun e => e.2.wishes), .im strR (fun e => e.2.back), .im (tupR strR) (fun e => e.2.later), .any]) (tna_comp (i := 3) (bown := [("packing", 7)]) (fun _ => rfl) (fun _ => sc_live_through.nd) (it_tup (tx_im (i := 0) rfl (fun _ => rfl) (fun _ => Or.inl rfl))) (fun _ => blkOk_by (own := [("packing", 7)]) (N := ["packings", "day", "made", "lying", "wishes", "back", "later", "packing"]) (sc := defScope s_live_through) (by decide +kernel)) (allB rfl) (by decide) (tgt_name (i := 7) (fun _ => sc_live_through.nd) (fun _ => rfl) (fun _ => Or.inl rfl) rfl) tc_no (tx_callTy (fun _ => call_tuple_ofK rfl) vc_tupL (fun _ => rfl) (fun _ => z_tuple F) (by decide +kernel) (ta_cons (TN.tx (tn_call (k := 1) (fun _ => ca_put_behindT F) (mw_put_behindT) (fun _ => hr.mono (by decide)) (fun _ => rfl) (ta_cons (tx_im (i := 7) rfl (fun _ => rfl) (fun _ => by first | exact Or.inl rfl | exact Or.inr (Or.inl rfl) | exact Or.inr (Or.inr rfl))) (ta_cons (tx_im (i := 4) rfl (fun _ => rfl) (fun _ => by first | exact Or.inl rfl | exact Or.inr (Or.inl rfl) | exact Or.inr (Or.inr rfl))) (ta_cons (tx_im (i := 5) rfl (fun _ => rfl) (fun _ => by first | exact Or.inl rfl | exact Or.inr (Or.inl rfl) | exact Or.inr (Or.inr rfl))) ta_nil))))) ta_nil)) (fun _ => rfl) (fun _ => rfl) (fun _ => sw_true rfl rfl rfl (by decide +kernel))) (okI_lift rfl) (.im (fun _ => rfl) (.im (fun _ => rfl) (.im (fun _ => rfl) (.im (fun _ => rfl) (.im (fun _ => rfl) (.im (fun _ => rfl) (.im (fun _ => rfl) (.any rfl .nil)))))))))
    (ts_cons (ts_ret (tx_tup (ta_cons (tx_op (fun _ => op_sub) v_I0 (tx_ix (fun _ => (ix_listK rfl)) v_ixL (tx_im (i := 2) rfl (fun _ => rfl) (fun _ => Or.inl rfl)) tx_int (fun _ _ => rfl)) (tx_callB (fun _ => cr_sumK rfl rfl) vc_sum (fun _ => rfl) (fun _ => z_sum F) (by decide +kernel) (ta_cons (TN.tx (tn_slice (tx_im (i := 2) rfl (fun _ => rfl) (fun _ => Or.inl rfl)) (to_some tx_int) to_none)) ta_nil))) (ta_cons (tx_tup (ta_cons (tx_callTy (fun _ => call_tuple_ofK rfl) vc_tupL (fun _ => rfl) (fun _ => z_tuple F) (by decide +kernel) (ta_cons (tx_im (i := 3) rfl (fun _ => rfl) (fun _ => Or.inl rfl)) ta_nil)) (ta_cons (tx_im (i := 6) rfl (fun _ => rfl) (fun _ => Or.inl rfl)) ta_nil)) tu_pr) ta_nil)) tu_pr)) ts_nil)))) (by decide) rfl (by exact h)⟩
noncomputable def w_live_through := wT ({} : Loc_live_through) d_live_through.1
theorem mw_live_through : ∀ x k k', (∀ y, k y → k' y) → w_live_through x k → w_live_through x k' := up_mono
theorem ca_live_through {P : Program} {ww : World} {K : PySem.W.Frag} {mg : Str → Option Value} {base : Heap} (F : Facts K mg) : Ca P ww K mg base CX0 2 "live_through" (spT K (.cons (tupR (tupR strR)) (.cons (triR (lstR strR) strR (tupR strR)) .nil)) (retI (prR intR (prR (tupR (tupR strR)) (tupR strR)))) w_live_through) := d_live_through.2 F
structure Loc_ways_from where
  table : (List (Str × ((List Str) × Str × (List Str)))) := []
  mornings : (List ((List (List Str)) × (List Str))) := []
  numbers : (List (((List (List Str)) × (List Str)) × Int)) := []
  ways : (List (List (Str × Int × Int))) := []
  lying : (List (List Str)) := []
  possible : (List Str) := []
  on : (List (Str × Int × Int)) := []
  gain : Int := 0
  morning : ((List (List Str)) × (List Str)) := ([], [])

noncomputable def d_ways_from : { wb : (Bs × (List (List (List Str))) × Unit) × Loc_ways_from → Kn ((Bs × (List (List (List Str))) × Unit) × Loc_ways_from) (List (List (Str × Int × Int))) → Prop // ∀ {P : Program} {ww : World} {K : PySem.W.Frag} {mg : Str → Option Value} {base : Heap}, Facts K mg → Ca P ww K mg base CX0 5 "ways_from" (spT K (.cons menuR (.cons (lstR (lstR (lstR strR))) .nil)) (retN (lstR (triR strR intR intR))) (wT ({} : Loc_ways_from) wb)) } :=
  ⟨_, fun {P ww K mg base} F => by
    obtain ⟨fd, D⟩ := fun_ways_from F
    refine ⟨_, fd, ["menu", "starts"], D.ok sc_ways_from (fun vs H Q E h => spT_len h) (fun cdv A outer s H vs Q E hr h => ?_), D.bindsN fun _ _ _ _ _ _ us hl => match us, hl with | [_, _], _ => rfl, g_ways_from F, D.kp⟩
    have hu := hu_of hr
    refine body_wT (K := K) (A := (.cons menuR (.cons (lstR (lstR (lstR strR))) .nil))) (R := retN (lstR (triR strR intR intR))) (Λ := Loc_ways_from) (l0 := {}) (L' := [.im menuR (fun e => e.1.1), .im (lstR (lstR (lstR strR))) (fun e => e.1.2.1), .im (dicR (triR (lstR strR) strR (tupR strR))) (fun e => e.2.table), .ow (prR (tupR (tupR strR)) (tupR strR)) (fun e => e.2.mornings), .ox (ndR P ww (prR (tupR (tupR strR)) (tupR strR)) (kPr (kTup (kTup NestedKey.text)) (kTup NestedKey.text)) intR) (fun e => e.2.numbers), .ow (lstR (triR strR intR intR)) (fun e => e.2.ways), .any, .any, .any, .any, .any, .any, .any, .any, .any, .any]) (n := 14) (ts_cons (ts_setD (i := 2) (bown := [("name", 8)]) (set := (fun e y => (e.1, { e.2 with table := y }))) (L' := [.im menuR (fun e => e.1.1), .im (lstR (lstR (lstR strR))) (fun e => e.1.2.1), .im (dicR (triR (lstR strR) strR (tupR strR))) (fun e => e.2.table), .any, .any, .any, .any, .any, .any, .any, .any, .any, .any, .any, .any, .any]) (fun _ => ⟨rfl, rfl⟩) (fun _ => rfl) (fun _ => sc_ways_from.nd) (TIt.x (it_tup (tx_mget (p_weathers F) (q_weathers F) (cls_Menu F) (no_Menu_weathers F) (fun _ => hr.mono (by decide)) (fun _ => rfl) m_weathers (tx_im (i := 0) rfl (fun _ => rfl) (fun _ => Or.inr (Or.inl rfl)))))) (fun _ => blkOk_by (own := [("name", 8)]) (N := ["menu", "starts", "table", "mornings", "numbers", "ways", "on", "weather", "name", "start", "lying", "possible", "number", "morning", "gain", "packing"]) (sc := defScope s_ways_from) (by decide +kernel)) (allB rfl) (by decide) (tgt_name (i := 8) (fun _ => sc_ways_from.nd) (fun _ => rfl) (fun _ => Or.inl rfl) rfl) tc_no (tx_im (i := 8) rfl (fun _ => rfl) (fun _ => by first | exact Or.inl rfl | exact Or.inr (Or.inl rfl) | exact Or.inr (Or.inr rfl))) (tx_tup (ta_cons (TN.tx (tn_mlist (n := 4) (g := Ent.wishes) (fun _ => cm_Menu_wishes F) (fun _ _ _ _ _ => rfl) (fun _ => hr.mono (by decide)) hsp_wishes (tx_im (i := 0) rfl (fun _ => rfl) (fun _ => by first | exact Or.inl rfl | exact Or.inr (Or.inl rfl) | exact Or.inr (Or.inr rfl))) (tx_im (i := 8) rfl (fun _ => rfl) (fun _ => by first | exact Or.inl rfl | exact Or.inr (Or.inl rfl) | exact Or.inr (Or.inr rfl))))) (ta_cons (tx_mback (n := 4) (fun _ => cm_Menu_back F) (fun _ _ _ _ _ => rfl) (fun _ => hr.mono (by decide)) (tx_im (i := 0) rfl (fun _ => rfl) (fun _ => by first | exact Or.inl rfl | exact Or.inr (Or.inl rfl) | exact Or.inr (Or.inr rfl))) (tx_im (i := 8) rfl (fun _ => rfl) (fun _ => by first | exact Or.inl rfl | exact Or.inr (Or.inl rfl) | exact Or.inr (Or.inr rfl)))) (ta_cons (tx_callTy (fun _ => call_tuple_ofK rfl) vc_tupL (fun _ => rfl) (fun _ => z_tuple F) (by decide +kernel) (ta_cons (TN.tx (tn_mlist (n := 4) (g := Ent.later) (fun _ => cm_Menu_later F) (fun _ _ _ _ _ => rfl) (fun _ => hr.mono (by decide)) hsp_later (tx_im (i := 0) rfl (fun _ => rfl) (fun _ => by first | exact Or.inl rfl | exact Or.inr (Or.inl rfl) | exact Or.inr (Or.inr rfl))) (tx_im (i := 8) rfl (fun _ => rfl) (fun _ => by first | exact Or.inl rfl | exact Or.inr (Or.inl rfl) | exact Or.inr (Or.inr rfl))))) ta_nil)) ta_nil))) tu_tri) (fun _ => rfl) (fun _ => rfl) (fun _ => sw_dict rfl rfl rfl (by decide +kernel)) (okI_lift rfl) (.im (fun _ => rfl) (.im (fun _ => rfl) (.im (fun _ => rfl) (.any rfl (.any rfl (.any rfl (.any rfl (.any rfl (.any rfl (.any rfl (.any rfl (.any rfl (.any rfl (.any rfl (.any rfl (.any rfl .nil)))))))))))))))))
    (ts_cons (ts_ownC (set := (fun e y => (e.1, { e.2 with mornings := y }))) (L' := [.im menuR (fun e => e.1.1), .im (lstR (lstR (lstR strR))) (fun e => e.1.2.1), .im (dicR (triR (lstR strR) strR (tupR strR))) (fun e => e.2.table), .ow (prR (tupR (tupR strR)) (tupR strR)) (fun e => e.2.mornings), .any, .any, .any, .any, .any, .any, .any, .any, .any, .any, .any, .any]) (tna_comp (i := 3) (bown := [("start", 9)]) (fun _ => rfl) (fun _ => sc_ways_from.nd) (it_list (tx_im (i := 1) rfl (fun _ => rfl) (fun _ => Or.inl rfl))) (fun _ => blkOk_by (own := [("start", 9)]) (N := ["menu", "starts", "table", "mornings", "numbers", "ways", "on", "weather", "name", "start", "lying", "possible", "number", "morning", "gain", "packing"]) (sc := defScope s_ways_from) (by decide +kernel)) (allB rfl) (by decide) (tgt_name (i := 9) (fun _ => sc_ways_from.nd) (fun _ => rfl) (fun _ => Or.inl rfl) rfl) tc_no (tx_tup (ta_cons (tx_callTy (fun _ => call_tuple_ofK rfl) vc_tupL (fun _ => rfl) (fun _ => z_tuple F) (by decide +kernel) (ta_cons (TN.tx (tn_comp (bown := [("packing", 15)]) (fun _ => rfl) (fun _ => sc_ways_from.nd) (it_list (tx_im (i := 9) rfl (fun _ => rfl) (fun _ => by first | exact Or.inl rfl | exact Or.inr (Or.inl rfl) | exact Or.inr (Or.inr rfl)))) (fun _ => blkOk_by (own := [("packing", 15)]) (N := ["menu", "starts", "table", "mornings", "numbers", "ways", "on", "weather", "name", "start", "lying", "possible", "number", "morning", "gain", "packing"]) (by rfl)) (allB rfl) (by decide) (tgt_name (i := 15) (fun _ => sc_ways_from.nd) (fun _ => rfl) (fun _ => Or.inl rfl) rfl) tc_no (tx_callTy (fun _ => call_tuple_ofK rfl) vc_tupL (fun _ => rfl) (fun _ => z_tuple F) (by decide +kernel) (ta_cons (tx_im (i := 15) rfl (fun _ => rfl) (fun _ => by first | exact Or.inl rfl | exact Or.inr (Or.inl rfl) | exact Or.inr (Or.inr rfl))) ta_nil)))) ta_nil)) (ta_cons (tx_sliceT (tx_mget (p_weathers F) (q_weathers F) (cls_Menu F) (no_Menu_weathers F) (fun _ => hr.mono (by decide)) (fun _ => rfl) m_weathers (tx_im (i := 0) rfl (fun _ => rfl) (fun _ => by first | exact Or.inl rfl | exact Or.inr (Or.inl rfl) | exact Or.inr (Or.inr rfl)))) to_none (to_some tx_int)) ta_nil)) tu_pr) (fun _ => rfl) (fun _ => rfl) (fun _ => sw_true rfl rfl rfl (by decide +kernel))) (okI_lift rfl) (.im (fun _ => rfl) (.im (fun _ => rfl) (.im (fun _ => rfl) (.ow (fun _ => rfl) (.any rfl (.any rfl (.any rfl (.any rfl (.any rfl (.any rfl (.any rfl (.any rfl (.any rfl (.any rfl (.any rfl (.any rfl .nil)))))))))))))))))
    (ts_cons (ts_ownD (i := 4) (bown := [("number", 12), ("morning", 13)]) (set := (fun e y => (e.1, { e.2 with numbers := y }))) (L' := [.im menuR (fun e => e.1.1), .im (lstR (lstR (lstR strR))) (fun e => e.1.2.1), .im (dicR (triR (lstR strR) strR (tupR strR))) (fun e => e.2.table), .ow (prR (tupR (tupR strR)) (tupR strR)) (fun e => e.2.mornings), .ox (ndR P ww (prR (tupR (tupR strR)) (tupR strR)) (kPr (kTup (kTup NestedKey.text)) (kTup NestedKey.text)) intR) (fun e => e.2.numbers), .any, .any, .any, .any, .any, .any, .any, .any, .any, .any, .any]) (kr_pr (kv_tup (kv_tup kv_str)) (kv_tup kv_str) (by decide)) (fun _ => ⟨rfl, rfl, rfl⟩) (fun _ => Nat.lt_of_le_of_lt (Nat.add_le_add_left (by decide) _) (Room.u65 hr)) (fun _ => rfl) (fun _ => sc_ways_from.nd) (itx_enumO (i := 3) rfl (fun _ => rfl) (fun _ => Or.inl rfl) (fun _ => rfl) (fun _ => z_enumerate F)) (fun _ => blkOk_by (own := [("number", 12), ("morning", 13)]) (N := ["menu", "starts", "table", "mornings", "numbers", "ways", "on", "weather", "name", "start", "lying", "possible", "number", "morning", "gain", "packing"]) (sc := defScope s_ways_from) (by decide +kernel)) (allB rfl) (by decide) (tgt_tup (is := [12, 13]) unp_pr (fun _ => (pgs_cons (pg_name (i := 12) sc_ways_from.nd rfl (Or.inl rfl)) (pgs_cons (pg_name (i := 13) sc_ways_from.nd rfl (Or.inl rfl)) pgs_nil))) (fun _ => rfl) rfl (allB rfl)) tc_no (tx_im (i := 13) rfl (fun _ => rfl) (fun _ => by first | exact Or.inl rfl | exact Or.inr (Or.inl rfl) | exact Or.inr (Or.inr rfl))) (tx_im (i := 12) rfl (fun _ => rfl) (fun _ => by first | exact Or.inl rfl | exact Or.inr (Or.inl rfl) | exact Or.inr (Or.inr rfl))) (fun _ => rfl) (fun _ => rfl) (fun _ => sw_dict rfl rfl rfl (by decide +kernel)) (okI_lift rfl) (.im (fun _ => rfl) (.im (fun _ => rfl) (.im (fun _ => rfl) (.ow (fun _ => rfl) (.ox (fun _ => rfl) (.any rfl (.any rfl (.any rfl (.any rfl (.any rfl (.any rfl (.any rfl (.any rfl (.any rfl (.any rfl (.any rfl .nil)))))))))))))))))
    (ts_cons (ts_own (i := 5) (set := (fun e y => (e.1, { e.2 with ways := y }))) (L' := [.im menuR (fun e => e.1.1), .im (lstR (lstR (lstR strR))) (fun e => e.1.2.1), .im (dicR (triR (lstR strR) strR (tupR strR))) (fun e => e.2.table), .ow (prR (tupR (tupR strR)) (tupR strR)) (fun e => e.2.mornings), .ox (ndR P ww (prR (tupR (tupR strR)) (tupR strR)) (kPr (kTup (kTup NestedKey.text)) (kTup NestedKey.text)) intR) (fun e => e.2.numbers), .ow (lstR (triR strR intR intR)) (fun e => e.2.ways), .any, .any, .any, .any, .any, .any, .any, .any, .any, .any]) (fun _ => sc_ways_from.nd) (fun _ => rfl) (fun _ => (Or.inl rfl)) (tn_lst ta_nil (lo_nil (S := (lstR (triR strR intR intR))))) (okI_lift rfl) (.im (fun _ => rfl) (.im (fun _ => rfl) (.im (fun _ => rfl) (.ow (fun _ => rfl) (.ox (fun _ => rfl) (.ow (fun _ => rfl) (.any rfl (.any rfl (.any rfl (.any rfl (.any rfl (.any rfl (.any rfl (.any rfl (.any rfl (.any rfl .nil)))))))))))))))))
    (ts_cons (ts_while (fun _ => PassesOwn.never) (tt_view (L2 := [.im menuR (fun e => e.1.1), .im (lstR (lstR (lstR strR))) (fun e => e.1.2.1), .im (dicR (triR (lstR strR) strR (tupR strR))) (fun e => e.2.table), .im (lstR (prR (tupR (tupR strR)) (tupR strR))) (fun e => e.2.mornings), .ox (ndR P ww (prR (tupR (tupR strR)) (tupR strR)) (kPr (kTup (kTup NestedKey.text)) (kTup NestedKey.text)) intR) (fun e => e.2.numbers), .im (lstR (lstR (triR strR intR intR))) (fun e => e.2.ways), .any, .any, .any, .any, .any, .any, .any, .any, .any, .any]) (.im (fun _ => rfl) (.im (fun _ => rfl) (.im (fun _ => rfl) (.fr (fun _ => rfl) (.ox (fun _ => rfl) (.fr (fun _ => rfl) (.any rfl (.any rfl (.any rfl (.any rfl (.any rfl (.any rfl (.any rfl (.any rfl (.any rfl (.any rfl .nil)))))))))))))))) (tt_cmp (fun _ => op_lt) v_B0 (tx_callB (fun _ => call_lenK rfl) vc_lenL (fun _ => rfl) (fun _ => z_len F) boot_len (ta_cons (tx_im (i := 5) rfl (fun _ => rfl) (fun _ => Or.inl rfl)) ta_nil)) (tx_callB (fun _ => call_lenK rfl) vc_lenL (fun _ => rfl) (fun _ => z_len F) boot_len (ta_cons (tx_im (i := 3) rfl (fun _ => rfl) (fun _ => Or.inl rfl)) ta_nil)) (nomark _)))
    (ts_cons (ts_unp (set := fun e y => (e.1, { e.2 with lying := y.1, possible := y.2 })) (L' := [.im menuR (fun e => e.1.1), .im (lstR (lstR (lstR strR))) (fun e => e.1.2.1), .im (dicR (triR (lstR strR) strR (tupR strR))) (fun e => e.2.table), .ow (prR (tupR (tupR strR)) (tupR strR)) (fun e => e.2.mornings), .ox (ndR P ww (prR (tupR (tupR strR)) (tupR strR)) (kPr (kTup (kTup NestedKey.text)) (kTup NestedKey.text)) intR) (fun e => e.2.numbers), .ow (lstR (triR strR intR intR)) (fun e => e.2.ways), .any, .any, .any, .any, .im (tupR (tupR strR)) (fun e => e.2.lying), .im (tupR strR) (fun e => e.2.possible), .any, .any, .any, .any]) (tx_ixO (i := 3) rfl (fun _ => rfl) (fun _ => Or.inl rfl) (tx_view (L2 := [.im menuR (fun e => e.1.1), .im (lstR (lstR (lstR strR))) (fun e => e.1.2.1), .im (dicR (triR (lstR strR) strR (tupR strR))) (fun e => e.2.table), .ow (prR (tupR (tupR strR)) (tupR strR)) (fun e => e.2.mornings), .ox (ndR P ww (prR (tupR (tupR strR)) (tupR strR)) (kPr (kTup (kTup NestedKey.text)) (kTup NestedKey.text)) intR) (fun e => e.2.numbers), .im (lstR (lstR (triR strR intR intR))) (fun e => e.2.ways), .any, .any, .any, .any, .any, .any, .any, .any, .any, .any]) intR.flat (.im (fun _ => rfl) (.im (fun _ => rfl) (.im (fun _ => rfl) (.ow (fun _ => rfl) (.ox (fun _ => rfl) (.fr (fun _ => rfl) (.any rfl (.any rfl (.any rfl (.any rfl (.any rfl (.any rfl (.any rfl (.any rfl (.any rfl (.any rfl .nil)))))))))))))))) (tx_callB (fun _ => call_lenK rfl) vc_lenL (fun _ => rfl) (fun _ => z_len F) boot_len (ta_cons (tx_im (i := 5) rfl (fun _ => rfl) (fun _ => Or.inl rfl)) ta_nil))) (fun _ _ => rfl)) (tgt_tup (is := [10, 11]) unp_pr (fun _ => (pgs_cons (pg_name (i := 10) sc_ways_from.nd rfl (Or.inl rfl)) (pgs_cons (pg_name (i := 11) sc_ways_from.nd rfl (Or.inl rfl)) pgs_nil))) (fun _ => rfl) rfl (allB rfl)) (.im (fun _ => rfl) (.im (fun _ => rfl) (.im (fun _ => rfl) (.ow (fun _ => rfl) (.ox (fun _ => rfl) (.ow (fun _ => rfl) (.any rfl (.any rfl (.any rfl (.any rfl (.im (fun _ => rfl) (.im (fun _ => rfl) (.any rfl (.any rfl (.any rfl (.any rfl .nil)))))))))))))))))
    (ts_cons (ts_own (i := 6) (set := (fun e y => (e.1, { e.2 with on := y }))) (L' := [.im menuR (fun e => e.1.1), .im (lstR (lstR (lstR strR))) (fun e => e.1.2.1), .im (dicR (triR (lstR strR) strR (tupR strR))) (fun e => e.2.table), .ow (prR (tupR (tupR strR)) (tupR strR)) (fun e => e.2.mornings), .ox (ndR P ww (prR (tupR (tupR strR)) (tupR strR)) (kPr (kTup (kTup NestedKey.text)) (kTup NestedKey.text)) intR) (fun e => e.2.numbers), .ow (lstR (triR strR intR intR)) (fun e => e.2.ways), .ow (triR strR intR intR) (fun e => e.2.on), .any, .any, .any, .im (tupR (tupR strR)) (fun e => e.2.lying), .im (tupR strR) (fun e => e.2.possible), .any, .any, .any, .any]) (fun _ => sc_ways_from.nd) (fun _ => rfl) (fun _ => (Or.inl rfl)) (tn_lst ta_nil (lo_nil (S := (triR strR intR intR)))) (okI_lift rfl) (.im (fun _ => rfl) (.im (fun _ => rfl) (.im (fun _ => rfl) (.ow (fun _ => rfl) (.ox (fun _ => rfl) (.ow (fun _ => rfl) (.ow (fun _ => rfl) (.any rfl (.any rfl (.any rfl (.im (fun _ => rfl) (.im (fun _ => rfl) (.any rfl (.any rfl (.any rfl (.any rfl .nil)))))))))))))))))
    (ts_cons (ts_for (fun _ => PassesOwn.never) (fun _ => rfl) (it_tup (tx_im (i := 11) rfl (fun _ => rfl) (fun _ => Or.inl rfl))) (tgt_name (i := 7) (fun _ => sc_ways_from.nd) (fun _ => rfl) (fun _ => (Or.inl rfl)) rfl)
    (ts_cons (ts_unp (set := fun e y => ((e.1.1, { e.1.2 with gain := y.1, morning := y.2 }), e.2)) (L' := [.im menuR (fun e => e.1.1.1), .im (lstR (lstR (lstR strR))) (fun e => e.1.1.2.1), .im (dicR (triR (lstR strR) strR (tupR strR))) (fun e => e.1.2.table), .ow (prR (tupR (tupR strR)) (tupR strR)) (fun e => e.1.2.mornings), .ox (ndR P ww (prR (tupR (tupR strR)) (tupR strR)) (kPr (kTup (kTup NestedKey.text)) (kTup NestedKey.text)) intR) (fun e => e.1.2.numbers), .ow (lstR (triR strR intR intR)) (fun e => e.1.2.ways), .ow (triR strR intR intR) (fun e => e.1.2.on), .im strR (fun e => e.2), .any, .any, .im (tupR (tupR strR)) (fun e => e.1.2.lying), .im (tupR strR) (fun e => e.1.2.possible), .any, .im (prR (tupR (tupR strR)) (tupR strR)) (fun e => e.1.2.morning), .im intR (fun e => e.1.2.gain), .any]) (tx_call (k := 2) (fun _ => ca_live_through F) (mw_live_through) (fun _ => hr.mono (by decide)) (fun _ => rfl) (ta_cons (tx_im (i := 10) rfl (fun _ => rfl) (fun _ => Or.inl rfl)) (ta_cons (tx_dget (fun _ => hu) (tx_im (i := 2) rfl (fun _ => rfl) (fun _ => Or.inl rfl)) (tx_im (i := 7) rfl (fun _ => rfl) (fun _ => Or.inl rfl)) (fun _ _ => rfl)) ta_nil))) (tgt_tup (is := [14, 13]) unp_pr (fun _ => (pgs_cons (pg_name (i := 14) sc_ways_from.nd rfl (Or.inl rfl)) (pgs_cons (pg_name (i := 13) sc_ways_from.nd rfl (Or.inl rfl)) pgs_nil))) (fun _ => rfl) rfl (allB rfl)) (.im (fun _ => rfl) (.im (fun _ => rfl) (.im (fun _ => rfl) (.ow (fun _ => rfl) (.ox (fun _ => rfl) (.ow (fun _ => rfl) (.ow (fun _ => rfl) (.im (fun _ => rfl) (.any rfl (.any rfl (.im (fun _ => rfl) (.im (fun _ => rfl) (.any rfl (.im (fun _ => rfl) (.im (fun _ => rfl) (.any rfl .nil)))))))))))))))))
    (ts_cons (ts_if (tt_inD true (i := 4) (kr_pr (kv_tup (kv_tup kv_str)) (kv_tup kv_str) (by decide)) rfl (fun _ => rfl) (fun _ => Or.inl rfl) (fun _ => ⟨rfl, rfl, rfl⟩) (fun _ => Nat.lt_of_le_of_lt (Nat.add_le_add_left (by decide) _) (Room.u65 hr)) (tx_im (i := 13) rfl (fun _ => rfl) (fun _ => Or.inl rfl))) (TS.sub (L2 := ([.im menuR (fun e => e.1.1.1), .im (lstR (lstR (lstR strR))) (fun e => e.1.1.2.1), .im (dicR (triR (lstR strR) strR (tupR strR))) (fun e => e.1.2.table), .ow (prR (tupR (tupR strR)) (tupR strR)) (fun e => e.1.2.mornings), .ox (ndR P ww (prR (tupR (tupR strR)) (tupR strR)) (kPr (kTup (kTup NestedKey.text)) (kTup NestedKey.text)) intR) (fun e => e.1.2.numbers), .ow (lstR (triR strR intR intR)) (fun e => e.1.2.ways), .ow (triR strR intR intR) (fun e => e.1.2.on), .im strR (fun e => e.2), .any, .any, .im (tupR (tupR strR)) (fun e => e.1.2.lying), .im (tupR strR) (fun e => e.1.2.possible), .any, .im (prR (tupR (tupR strR)) (tupR strR)) (fun e => e.1.2.morning), .im intR (fun e => e.1.2.gain), .any] : List (Sl (((Bs × (List (List (List Str))) × Unit) × Loc_ways_from) × Str)))) (ts_cons (ts_putD (i := 4) (set := (fun e y => ((e.1.1, { e.1.2 with numbers := y }), e.2))) (L' := [.im menuR (fun e => e.1.1.1), .im (lstR (lstR (lstR strR))) (fun e => e.1.1.2.1), .im (dicR (triR (lstR strR) strR (tupR strR))) (fun e => e.1.2.table), .ow (prR (tupR (tupR strR)) (tupR strR)) (fun e => e.1.2.mornings), .ox (ndR P ww (prR (tupR (tupR strR)) (tupR strR)) (kPr (kTup (kTup NestedKey.text)) (kTup NestedKey.text)) intR) (fun e => e.1.2.numbers), .ow (lstR (triR strR intR intR)) (fun e => e.1.2.ways), .ow (triR strR intR intR) (fun e => e.1.2.on), .im strR (fun e => e.2), .any, .any, .im (tupR (tupR strR)) (fun e => e.1.2.lying), .im (tupR strR) (fun e => e.1.2.possible), .any, .im (prR (tupR (tupR strR)) (tupR strR)) (fun e => e.1.2.morning), .im intR (fun e => e.1.2.gain), .any]) (kr_pr (kv_tup (kv_tup kv_str)) (kv_tup kv_str) (by decide)) rfl (fun _ => rfl) (fun _ => Or.inl rfl) (fun _ => ⟨rfl, rfl, rfl⟩) (fun _ => Nat.lt_of_le_of_lt (Nat.add_le_add_left (by decide) _) (Room.u65 hr)) (tx_view (L2 := [.im menuR (fun e => e.1.1.1), .im (lstR (lstR (lstR strR))) (fun e => e.1.1.2.1), .im (dicR (triR (lstR strR) strR (tupR strR))) (fun e => e.1.2.table), .im (lstR (prR (tupR (tupR strR)) (tupR strR))) (fun e => e.1.2.mornings), .ox (ndR P ww (prR (tupR (tupR strR)) (tupR strR)) (kPr (kTup (kTup NestedKey.text)) (kTup NestedKey.text)) intR) (fun e => e.1.2.numbers), .ow (lstR (triR strR intR intR)) (fun e => e.1.2.ways), .ow (triR strR intR intR) (fun e => e.1.2.on), .im strR (fun e => e.2), .any, .any, .im (tupR (tupR strR)) (fun e => e.1.2.lying), .im (tupR strR) (fun e => e.1.2.possible), .any, .im (prR (tupR (tupR strR)) (tupR strR)) (fun e => e.1.2.morning), .im intR (fun e => e.1.2.gain), .any]) intR.flat (.im (fun _ => rfl) (.im (fun _ => rfl) (.im (fun _ => rfl) (.fr (fun _ => rfl) (.ox (fun _ => rfl) (.ow (fun _ => rfl) (.ow (fun _ => rfl) (.im (fun _ => rfl) (.any rfl (.any rfl (.im (fun _ => rfl) (.im (fun _ => rfl) (.any rfl (.im (fun _ => rfl) (.im (fun _ => rfl) (.any rfl .nil)))))))))))))))) (tx_callB (fun _ => call_lenK rfl) vc_lenL (fun _ => rfl) (fun _ => z_len F) boot_len (ta_cons (tx_im (i := 3) rfl (fun _ => rfl) (fun _ => Or.inl rfl)) ta_nil))) (tx_im (i := 13) rfl (fun _ => rfl) (fun _ => Or.inl rfl)) (.im (fun _ => rfl) (.im (fun _ => rfl) (.im (fun _ => rfl) (.ow (fun _ => rfl) (.ox (fun _ => rfl) (.ow (fun _ => rfl) (.ow (fun _ => rfl) (.im (fun _ => rfl) (.any rfl (.any rfl (.im (fun _ => rfl) (.im (fun _ => rfl) (.any rfl (.im (fun _ => rfl) (.im (fun _ => rfl) (.any rfl .nil)))))))))))))))))
    (ts_cons (ts_append (i := 3) (set := (fun e y => ((e.1.1, { e.1.2 with mornings := y }), e.2))) (L' := [.im menuR (fun e => e.1.1.1), .im (lstR (lstR (lstR strR))) (fun e => e.1.1.2.1), .im (dicR (triR (lstR strR) strR (tupR strR))) (fun e => e.1.2.table), .ow (prR (tupR (tupR strR)) (tupR strR)) (fun e => e.1.2.mornings), .ox (ndR P ww (prR (tupR (tupR strR)) (tupR strR)) (kPr (kTup (kTup NestedKey.text)) (kTup NestedKey.text)) intR) (fun e => e.1.2.numbers), .ow (lstR (triR strR intR intR)) (fun e => e.1.2.ways), .ow (triR strR intR intR) (fun e => e.1.2.on), .im strR (fun e => e.2), .any, .any, .im (tupR (tupR strR)) (fun e => e.1.2.lying), .im (tupR strR) (fun e => e.1.2.possible), .any, .im (prR (tupR (tupR strR)) (tupR strR)) (fun e => e.1.2.morning), .im intR (fun e => e.1.2.gain), .any]) rfl (fun _ => rfl) (fun _ => Or.inl rfl) (tx_im (i := 13) rfl (fun _ => rfl) (fun _ => Or.inl rfl)) (.im (fun _ => rfl) (.im (fun _ => rfl) (.im (fun _ => rfl) (.ow (fun _ => rfl) (.ox (fun _ => rfl) (.ow (fun _ => rfl) (.ow (fun _ => rfl) (.im (fun _ => rfl) (.any rfl (.any rfl (.im (fun _ => rfl) (.im (fun _ => rfl) (.any rfl (.im (fun _ => rfl) (.im (fun _ => rfl) (.any rfl .nil))))))))))))))))) ts_nil)) (.im (fun _ => rfl) (.im (fun _ => rfl) (.im (fun _ => rfl) (.ow (fun _ => rfl) (.ox (fun _ => rfl) (.ow (fun _ => rfl) (.ow (fun _ => rfl) (.im (fun _ => rfl) (.any rfl (.any rfl (.im (fun _ => rfl) (.im (fun _ => rfl) (.any rfl (.im (fun _ => rfl) (.im (fun _ => rfl) (.any rfl .nil))))))))))))))))) (TS.sub (L2 := ([.im menuR (fun e => e.1.1.1), .im (lstR (lstR (lstR strR))) (fun e => e.1.1.2.1), .im (dicR (triR (lstR strR) strR (tupR strR))) (fun e => e.1.2.table), .ow (prR (tupR (tupR strR)) (tupR strR)) (fun e => e.1.2.mornings), .ox (ndR P ww (prR (tupR (tupR strR)) (tupR strR)) (kPr (kTup (kTup NestedKey.text)) (kTup NestedKey.text)) intR) (fun e => e.1.2.numbers), .ow (lstR (triR strR intR intR)) (fun e => e.1.2.ways), .ow (triR strR intR intR) (fun e => e.1.2.on), .im strR (fun e => e.2), .any, .any, .im (tupR (tupR strR)) (fun e => e.1.2.lying), .im (tupR strR) (fun e => e.1.2.possible), .any, .im (prR (tupR (tupR strR)) (tupR strR)) (fun e => e.1.2.morning), .im intR (fun e => e.1.2.gain), .any] : List (Sl (((Bs × (List (List (List Str))) × Unit) × Loc_ways_from) × Str)))) ts_nil (.im (fun _ => rfl) (.im (fun _ => rfl) (.im (fun _ => rfl) (.ow (fun _ => rfl) (.ox (fun _ => rfl) (.ow (fun _ => rfl) (.ow (fun _ => rfl) (.im (fun _ => rfl) (.any rfl (.any rfl (.im (fun _ => rfl) (.im (fun _ => rfl) (.any rfl (.im (fun _ => rfl) (.im (fun _ => rfl) (.any rfl .nil))))))))))))))))))
    (ts_cons (ts_append (i := 6) (set := (fun e y => ((e.1.1, { e.1.2 with on := y }), e.2))) (L' := [.im menuR (fun e => e.1.1.1), .im (lstR (lstR (lstR strR))) (fun e => e.1.1.2.1), .im (dicR (triR (lstR strR) strR (tupR strR))) (fun e => e.1.2.table), .ow (prR (tupR (tupR strR)) (tupR strR)) (fun e => e.1.2.mornings), .ox (ndR P ww (prR (tupR (tupR strR)) (tupR strR)) (kPr (kTup (kTup NestedKey.text)) (kTup NestedKey.text)) intR) (fun e => e.1.2.numbers), .ow (lstR (triR strR intR intR)) (fun e => e.1.2.ways), .ow (triR strR intR intR) (fun e => e.1.2.on), .im strR (fun e => e.2), .any, .any, .im (tupR (tupR strR)) (fun e => e.1.2.lying), .im (tupR strR) (fun e => e.1.2.possible), .any, .im (prR (tupR (tupR strR)) (tupR strR)) (fun e => e.1.2.morning), .im intR (fun e => e.1.2.gain), .any]) rfl (fun _ => rfl) (fun _ => Or.inl rfl) (tx_tup (ta_cons (tx_im (i := 7) rfl (fun _ => rfl) (fun _ => Or.inl rfl)) (ta_cons (tx_im (i := 14) rfl (fun _ => rfl) (fun _ => Or.inl rfl)) (ta_cons (tx_ixD (i := 4) (kr_pr (kv_tup (kv_tup kv_str)) (kv_tup kv_str) (by decide)) rfl (fun _ => rfl) (fun _ => Or.inl rfl) (fun _ => ⟨rfl, rfl, rfl⟩) (fun _ => Nat.lt_of_le_of_lt (Nat.add_le_add_left (by decide) _) (Room.u65 hr)) (tx_im (i := 13) rfl (fun _ => rfl) (fun _ => Or.inl rfl)) (fun _ _ => rfl)) ta_nil))) tu_tri) (.im (fun _ => rfl) (.im (fun _ => rfl) (.im (fun _ => rfl) (.ow (fun _ => rfl) (.ox (fun _ => rfl) (.ow (fun _ => rfl) (.ow (fun _ => rfl) (.im (fun _ => rfl) (.any rfl (.any rfl (.im (fun _ => rfl) (.im (fun _ => rfl) (.any rfl (.im (fun _ => rfl) (.im (fun _ => rfl) (.any rfl .nil))))))))))))))))) ts_nil)))
    (.im (fun _ => rfl) (.im (fun _ => rfl) (.im (fun _ => rfl) (.ow (fun _ => rfl) (.ox (fun _ => rfl) (.ow (fun _ => rfl) (.ow (fun _ => rfl) (.any rfl (.any rfl (.any rfl (.im (fun _ => rfl) (.im (fun _ => rfl) (.any rfl (.any rfl (.any rfl (.any rfl .nil)))))))))))))))))
    (ts_cons (TS1.pre (L := [.im menuR (fun e => e.1.1), .im (lstR (lstR (lstR strR))) (fun e => e.1.2.1), .im (dicR (triR (lstR strR) strR (tupR strR))) (fun e => e.2.table), .ow (prR (tupR (tupR strR)) (tupR strR)) (fun e => e.2.mornings), .ox (ndR P ww (prR (tupR (tupR strR)) (tupR strR)) (kPr (kTup (kTup NestedKey.text)) (kTup NestedKey.text)) intR) (fun e => e.2.numbers), .ow (lstR (triR strR intR intR)) (fun e => e.2.ways), .im (lstR (triR strR intR intR)) (fun e => e.2.on), .any, .any, .any, .im (tupR (tupR strR)) (fun e => e.2.lying), .im (tupR strR) (fun e => e.2.possible), .any, .any, .any, .any]) (.im (fun _ => rfl) (.im (fun _ => rfl) (.im (fun _ => rfl) (.ow (fun _ => rfl) (.ox (fun _ => rfl) (.ow (fun _ => rfl) (.fr (fun _ => rfl) (.any rfl (.any rfl (.any rfl (.im (fun _ => rfl) (.im (fun _ => rfl) (.any rfl (.any rfl (.any rfl (.any rfl .nil)))))))))))))))) (ts_append (i := 5) (set := (fun e y => (e.1, { e.2 with ways := y }))) (L' := [.im menuR (fun e => e.1.1), .im (lstR (lstR (lstR strR))) (fun e => e.1.2.1), .im (dicR (triR (lstR strR) strR (tupR strR))) (fun e => e.2.table), .ow (prR (tupR (tupR strR)) (tupR strR)) (fun e => e.2.mornings), .ox (ndR P ww (prR (tupR (tupR strR)) (tupR strR)) (kPr (kTup (kTup NestedKey.text)) (kTup NestedKey.text)) intR) (fun e => e.2.numbers), .ow (lstR (triR strR intR intR)) (fun e => e.2.ways), .im (lstR (triR strR intR intR)) (fun e => e.2.on), .any, .any, .any, .im (tupR (tupR strR)) (fun e => e.2.lying), .im (tupR strR) (fun e => e.2.possible), .any, .any, .any, .any]) rfl (fun _ => rfl) (fun _ => Or.inl rfl) (tx_im (i := 6) rfl (fun _ => rfl) (fun _ => Or.inl rfl)) (.im (fun _ => rfl) (.im (fun _ => rfl) (.im (fun _ => rfl) (.ow (fun _ => rfl) (.ox (fun _ => rfl) (.ow (fun _ => rfl) (.im (fun _ => rfl) (.any rfl (.any rfl (.any rfl (.im (fun _ => rfl) (.im (fun _ => rfl) (.any rfl (.any rfl (.any rfl (.any rfl .nil)))))))))))))))))) ts_nil))))
    (.im (fun _ => rfl) (.im (fun _ => rfl) (.im (fun _ => rfl) (.ow (fun _ => rfl) (.ox (fun _ => rfl) (.ow (fun _ => rfl) (.any rfl (.any rfl (.any rfl (.any rfl (.any rfl (.any rfl (.any rfl (.any rfl (.any rfl (.any rfl .nil)))))))))))))))))
    (ts_cons (ts_retO (i := 5) rfl (fun _ => rfl) (fun _ => Or.inl rfl)) ts_nil)))))) (by decide) rfl (by exact h)⟩
noncomputable def w_ways_from := wT ({} : Loc_ways_from) d_ways_from.1
theorem mw_ways_from : ∀ x k k', (∀ y, k y → k' y) → w_ways_from x k → w_ways_from x k' := up_mono
theorem ca_ways_from {P : Program} {ww : World} {K : PySem.W.Frag} {mg : Str → Option Value} {base : Heap} (F : Facts K mg) : Ca P ww K mg base CX0 5 "ways_from" (spT K (.cons menuR (.cons (lstR (lstR (lstR strR))) .nil)) (retN (lstR (triR strR intR intR))) w_ways_from) := d_ways_from.2 F
structure Loc_best_gains where
  rows : (List (List Int)) := []
  ahead : (List Int) := []

noncomputable def d_best_gains : { wb : ((List (List (Str × Int × Int))) × Int × Int × Unit) × Loc_best_gains → Kn (((List (List (Str × Int × Int))) × Int × Int × Unit) × Loc_best_gains) (List (List Int)) → Prop // ∀ {P : Program} {ww : World} {K : PySem.W.Frag} {mg : Str → Option Value} {base : Heap}, Facts K mg → Ca P ww K mg base CX0 1 "best_gains" (spT K (.cons (lstR (lstR (triR strR intR intR))) (.cons intR (.cons intR .nil))) (retN (lstR intR)) (wT ({} : Loc_best_gains) wb)) } :=
  ⟨_, fun {P ww K mg base} F => by
    obtain ⟨fd, D⟩ := fun_best_gains F
    refine ⟨_, fd, ["ways", "days", "sign"], D.ok sc_best_gains (fun vs H Q E h => spT_len h) (fun cdv A outer s H vs Q E hr h => ?_), D.bindsN fun _ _ _ _ _ _ us hl => match us, hl with | [_, _, _], _ => rfl, g_best_gains F, D.kp⟩
    have hu := hu_of hr
    refine body_wT (K := K) (A := (.cons (lstR (lstR (triR strR intR intR))) (.cons intR (.cons intR .nil)))) (R := retN (lstR intR)) (Λ := Loc_best_gains) (l0 := {}) (L' := [.im (lstR (lstR (triR strR intR intR))) (fun e => e.1.1), .im intR (fun e => e.1.2.1), .im intR (fun e => e.1.2.2.1), .ow (lstR intR) (fun e => e.2.rows), .any, .any, .any, .any, .any, .any]) (n := 7) (ts_cons (ts_own (i := 3) (set := (fun e y => (e.1, { e.2 with rows := y }))) (L' := [.im (lstR (lstR (triR strR intR intR))) (fun e => e.1.1), .im intR (fun e => e.1.2.1), .im intR (fun e => e.1.2.2.1), .ow (lstR intR) (fun e => e.2.rows), .any, .any, .any, .any, .any, .any]) (fun _ => sc_best_gains.nd) (fun _ => rfl) (fun _ => (Or.inl rfl)) (tn_lst (ta_cons (TN.tx (tn_op (fun _ => op_rep) v_rep (TN.tx (tn_lst (ta_cons tx_int ta_nil) (lo_cons lo_nil))) (tx_callB (fun _ => call_lenK rfl) vc_lenL (fun _ => rfl) (fun _ => z_len F) boot_len (ta_cons (tx_im (i := 0) rfl (fun _ => rfl) (fun _ => Or.inl rfl)) ta_nil)))) ta_nil) (lo_cons lo_nil)) (okI_lift rfl) (.im (fun _ => rfl) (.im (fun _ => rfl) (.im (fun _ => rfl) (.ow (fun _ => rfl) (.any rfl (.any rfl (.any rfl (.any rfl (.any rfl (.any rfl .nil)))))))))))
    (ts_cons (ts_for (fun _ => PassesOwn.never) (fun _ => rfl) (it_range1 (fun _ => rfl) (fun _ => z_range F) (tx_im (i := 1) rfl (fun _ => rfl) (fun _ => Or.inl rfl))) (tgt_name (i := 4) (fun _ => sc_best_gains.nd) (fun _ => rfl) (fun _ => (Or.inl rfl)) rfl)
    (ts_cons (ts_set (i := 5) (set := (fun e y => ((e.1.1, { e.1.2 with ahead := y }), e.2))) (L' := [.im (lstR (lstR (triR strR intR intR))) (fun e => e.1.1.1), .im intR (fun e => e.1.1.2.1), .im intR (fun e => e.1.1.2.2.1), .ow (lstR intR) (fun e => e.1.2.rows), .im intR (fun e => e.2), .im (lstR intR) (fun e => e.1.2.ahead), .any, .any, .any, .any]) (fun _ => sc_best_gains.nd) (fun _ => rfl) (fun _ => (Or.inr rfl)) (tx_ixO (i := 3) rfl (fun _ => rfl) (fun _ => Or.inl rfl) (tx_im (i := 4) rfl (fun _ => rfl) (fun _ => Or.inl rfl)) (fun _ _ => rfl)) (okI_lift rfl) (.im (fun _ => rfl) (.im (fun _ => rfl) (.im (fun _ => rfl) (.ow (fun _ => rfl) (.im (fun _ => rfl) (.im (fun _ => rfl) (.any rfl (.any rfl (.any rfl (.any rfl .nil)))))))))))
    (ts_cons (ts_append (i := 3) (set := (fun e y => ((e.1.1, { e.1.2 with rows := y }), e.2))) (L' := [.im (lstR (lstR (triR strR intR intR))) (fun e => e.1.1.1), .im intR (fun e => e.1.1.2.1), .im intR (fun e => e.1.1.2.2.1), .ow (lstR intR) (fun e => e.1.2.rows), .im intR (fun e => e.2), .im (lstR intR) (fun e => e.1.2.ahead), .any, .any, .any, .any]) rfl (fun _ => rfl) (fun _ => Or.inl rfl) (TN.tx (tn_comp (bown := [("on", 6)]) (fun _ => rfl) (fun _ => sc_best_gains.nd) (it_list (tx_im (i := 0) rfl (fun _ => rfl) (fun _ => Or.inl rfl))) (fun _ => blkOk_by (own := [("on", 6)]) (N := ["ways", "days", "sign", "rows", "day", "ahead", "on", "weather", "gain", "number"]) (sc := defScope s_best_gains) (by decide +kernel)) (allB rfl) (by decide) (tgt_name (i := 6) (fun _ => sc_best_gains.nd) (fun _ => rfl) (fun _ => Or.inl rfl) rfl) tc_no (tx_callB (fun _ => cr_maxK rfl rfl) vc_max (fun _ => rfl) (fun _ => z_max F) (by decide +kernel) (ta_cons (TN.tx (tn_comp (bown := [("weather", 7), ("gain", 8), ("number", 9)]) (fun _ => rfl) (fun _ => sc_best_gains.nd) (it_list (tx_im (i := 6) rfl (fun _ => rfl) (fun _ => by first | exact Or.inl rfl | exact Or.inr (Or.inl rfl) | exact Or.inr (Or.inr rfl)))) (fun _ => blkOk_by (own := [("weather", 7), ("gain", 8), ("number", 9)]) (N := ["ways", "days", "sign", "rows", "day", "ahead", "on", "weather", "gain", "number"]) (by rfl)) (allB rfl) (by decide) (tgt_tup (is := [7, 8, 9]) unp_tri (fun _ => (pgs_cons (pg_name (i := 7) sc_best_gains.nd rfl (Or.inl rfl)) (pgs_cons (pg_name (i := 8) sc_best_gains.nd rfl (Or.inl rfl)) (pgs_cons (pg_name (i := 9) sc_best_gains.nd rfl (Or.inl rfl)) pgs_nil)))) (fun _ => rfl) rfl (allB rfl)) tc_no (tx_op (fun _ => op_add) v_I0 (tx_op (fun _ => op_mul) v_I (tx_im (i := 2) rfl (fun _ => rfl) (fun _ => by first | exact Or.inl rfl | exact Or.inr (Or.inl rfl) | exact Or.inr (Or.inr rfl))) (tx_im (i := 8) rfl (fun _ => rfl) (fun _ => by first | exact Or.inl rfl | exact Or.inr (Or.inl rfl) | exact Or.inr (Or.inr rfl)))) (tx_ix (fun _ => (ix_listK rfl)) v_ixL (tx_im (i := 5) rfl (fun _ => rfl) (fun _ => by first | exact Or.inl rfl | exact Or.inr (Or.inl rfl) | exact Or.inr (Or.inr rfl))) (tx_im (i := 9) rfl (fun _ => rfl) (fun _ => by first | exact Or.inl rfl | exact Or.inr (Or.inl rfl) | exact Or.inr (Or.inr rfl))) (fun _ _ => rfl))))) ta_nil)))) (.im (fun _ => rfl) (.im (fun _ => rfl) (.im (fun _ => rfl) (.ow (fun _ => rfl) (.im (fun _ => rfl) (.im (fun _ => rfl) (.any rfl (.any rfl (.any rfl (.any rfl .nil))))))))))) ts_nil))
    (.im (fun _ => rfl) (.im (fun _ => rfl) (.im (fun _ => rfl) (.ow (fun _ => rfl) (.any rfl (.any rfl (.any rfl (.any rfl (.any rfl (.any rfl .nil)))))))))))
    (ts_cons (ts_retO (i := 3) rfl (fun _ => rfl) (fun _ => Or.inl rfl)) ts_nil))) (by decide) rfl (by exact h)⟩
noncomputable def w_best_gains := wT ({} : Loc_best_gains) d_best_gains.1
theorem mw_best_gains : ∀ x k k', (∀ y, k y → k' y) → w_best_gains x k → w_best_gains x k' := up_mono
theorem ca_best_gains {P : Program} {ww : World} {K : PySem.W.Frag} {mg : Str → Option Value} {base : Heap} (F : Facts K mg) : Ca P ww K mg base CX0 1 "best_gains" (spT K (.cons (lstR (lstR (triR strR intR intR))) (.cons intR (.cons intR .nil))) (retN (lstR intR)) w_best_gains) := d_best_gains.2 F
structure Loc_all_packings where
  things : (List Str) := []

noncomputable def d_all_packings : { wb : (Bs × Unit) × Loc_all_packings → Kn ((Bs × Unit) × Loc_all_packings) (List (List Str)) → Prop // ∀ {P : Program} {ww : World} {K : PySem.W.Frag} {mg : Str → Option Value} {base : Heap}, Facts K mg → Ca P ww K mg base CX0 4 "all_packings" (spT K (.cons menuR .nil) (retN (lstR strR)) (wT ({} : Loc_all_packings) wb)) } :=
  ⟨_, fun {P ww K mg base} F => by
    obtain ⟨fd, D⟩ := fun_all_packings F
    refine ⟨_, fd, ["menu"], D.ok sc_all_packings (fun vs H Q E h => spT_len h) (fun cdv A outer s H vs Q E hr h => ?_), D.bindsN fun _ _ _ _ _ _ us hl => match us, hl with | [_], _ => rfl, g_all_packings F, D.kp⟩
    have hu := hu_of hr
    refine body_wT (K := K) (A := (.cons menuR .nil)) (R := retN (lstR strR)) (Λ := Loc_all_packings) (l0 := {}) (L' := [.im menuR (fun e => e.1.1), .im (lstR strR) (fun e => e.2.things), .any]) (n := 2) (ts_cons (ts_set (i := 1) (set := (fun e y => (e.1, { e.2 with things := y }))) (L' := [.im menuR (fun e => e.1.1), .im (lstR strR) (fun e => e.2.things), .any]) (fun _ => sc_all_packings.nd) (fun _ => rfl) (fun _ => (Or.inl rfl)) (TN.tx (tn_callTy (fun _ => call_listK rfl) vc_listT (fun _ => rfl) (fun _ => z_list F) (by decide +kernel) (ta_cons (tx_mget (p_things F) (q_things F) (cls_Menu F) (no_Menu_things F) (fun _ => hr.mono (by decide)) (fun _ => rfl) m_things (tx_im (i := 0) rfl (fun _ => rfl) (fun _ => Or.inl rfl))) ta_nil))) (okI_lift rfl) (.im (fun _ => rfl) (.im (fun _ => rfl) (.any rfl .nil))))
    (ts_cons (ts_retN (tn_comp (bown := [("row", 2)]) (fun _ => rfl) (fun _ => sc_all_packings.nd) (it_perm (fun _ => rfl) (fun _ => gm_permutations F) (tx_im (i := 1) rfl (fun _ => rfl) (fun _ => Or.inl rfl))) (fun _ => blkOk_by (own := [("row", 2)]) (N := ["menu", "things", "row"]) (sc := defScope s_all_packings) (by decide +kernel)) (allB rfl) (by decide) (tgt_name (i := 2) (fun _ => sc_all_packings.nd) (fun _ => rfl) (fun _ => Or.inl rfl) rfl) tc_no (TN.tx (tn_callTy (fun _ => call_listK rfl) vc_listT (fun _ => rfl) (fun _ => z_list F) (by decide +kernel) (ta_cons (tx_im (i := 2) rfl (fun _ => rfl) (fun _ => by first | exact Or.inl rfl | exact Or.inr (Or.inl rfl) | exact Or.inr (Or.inr rfl))) ta_nil))))) ts_nil)) (by decide) rfl (by exact h)⟩
noncomputable def w_all_packings := wT ({} : Loc_all_packings) d_all_packings.1
theorem mw_all_packings : ∀ x k k', (∀ y, k y → k' y) → w_all_packings x k → w_all_packings x k' := up_mono
theorem ca_all_packings {P : Program} {ww : World} {K : PySem.W.Frag} {mg : Str → Option Value} {base : Heap} (F : Facts K mg) : Ca P ww K mg base CX0 4 "all_packings" (spT K (.cons menuR .nil) (retN (lstR strR)) w_all_packings) := d_all_packings.2 F
structure Loc_most_of_each where
  ways : (List (List (Str × Int × Int))) := []

noncomputable def d_most_of_each : { wb : (Bs × (List (List Str)) × Int × Unit) × Loc_most_of_each → Kn ((Bs × (List (List Str)) × Int × Unit) × Loc_most_of_each) (List Int) → Prop // ∀ {P : Program} {ww : World} {K : PySem.W.Frag} {mg : Str → Option Value} {base : Heap}, Facts K mg → Ca P ww K mg base CX0 6 "most_of_each" (spT K (.cons menuR (.cons (lstR (lstR strR)) (.cons intR .nil))) (retN intR) (wT ({} : Loc_most_of_each) wb)) } :=
  ⟨_, fun {P ww K mg base} F => by
    obtain ⟨fd, D⟩ := fun_most_of_each F
    refine ⟨_, fd, ["menu", "packings", "days"], D.ok sc_most_of_each (fun vs H Q E h => spT_len h) (fun cdv A outer s H vs Q E hr h => ?_), D.bindsN fun _ _ _ _ _ _ us hl => match us, hl with | [_, _, _], _ => rfl, g_most_of_each F, D.kp⟩
    have hu := hu_of hr
    refine body_wT (K := K) (A := (.cons menuR (.cons (lstR (lstR strR)) (.cons intR .nil)))) (R := retN intR) (Λ := Loc_most_of_each) (l0 := {}) (L' := [.im menuR (fun e => e.1.1), .im (lstR (lstR strR)) (fun e => e.1.2.1), .im intR (fun e => e.1.2.2.1), .im (lstR (lstR (triR strR intR intR))) (fun e => e.2.ways), .any]) (n := 2) (ts_cons (ts_set (i := 3) (set := (fun e y => (e.1, { e.2 with ways := y }))) (L' := [.im menuR (fun e => e.1.1), .im (lstR (lstR strR)) (fun e => e.1.2.1), .im intR (fun e => e.1.2.2.1), .im (lstR (lstR (triR strR intR intR))) (fun e => e.2.ways), .any]) (fun _ => sc_most_of_each.nd) (fun _ => rfl) (fun _ => (Or.inl rfl)) (TN.tx (tn_call (k := 5) (fun _ => ca_ways_from F) (mw_ways_from) (fun _ => hr.mono (by decide)) (fun _ => rfl) (ta_cons (tx_im (i := 0) rfl (fun _ => rfl) (fun _ => Or.inl rfl)) (ta_cons (TN.tx (tn_comp (bown := [("packing", 4)]) (fun _ => rfl) (fun _ => sc_most_of_each.nd) (it_list (tx_im (i := 1) rfl (fun _ => rfl) (fun _ => Or.inl rfl))) (fun _ => blkOk_by (own := [("packing", 4)]) (N := ["menu", "packings", "days", "ways", "packing"]) (sc := defScope s_most_of_each) (by decide +kernel)) (allB rfl) (by decide) (tgt_name (i := 4) (fun _ => sc_most_of_each.nd) (fun _ => rfl) (fun _ => Or.inl rfl) rfl) tc_no (TN.tx (tn_lst (ta_cons (tx_im (i := 4) rfl (fun _ => rfl) (fun _ => by first | exact Or.inl rfl | exact Or.inr (Or.inl rfl) | exact Or.inr (Or.inr rfl))) ta_nil) (lo_cons lo_nil))))) ta_nil)))) (okI_lift rfl) (.im (fun _ => rfl) (.im (fun _ => rfl) (.im (fun _ => rfl) (.im (fun _ => rfl) (.any rfl .nil))))))
    (ts_cons (ts_retN (tn_slice (tx_ix (fun _ => (ix_listK rfl)) v_ixL (TN.tx (tn_call (k := 1) (fun _ => ca_best_gains F) (mw_best_gains) (fun _ => hr.mono (by decide)) (fun _ => rfl) (ta_cons (tx_im (i := 3) rfl (fun _ => rfl) (fun _ => Or.inl rfl)) (ta_cons (tx_im (i := 2) rfl (fun _ => rfl) (fun _ => Or.inl rfl)) (ta_cons tx_int ta_nil))))) (tx_neg tx_int) (fun _ _ => rfl)) to_none (to_some (tx_callB (fun _ => call_lenK rfl) vc_lenL (fun _ => rfl) (fun _ => z_len F) boot_len (ta_cons (tx_im (i := 1) rfl (fun _ => rfl) (fun _ => Or.inl rfl)) ta_nil))))) ts_nil)) (by decide) rfl (by exact h)⟩
noncomputable def w_most_of_each := wT ({} : Loc_most_of_each) d_most_of_each.1
theorem mw_most_of_each : ∀ x k k', (∀ y, k y → k' y) → w_most_of_each x k → w_most_of_each x k' := up_mono
theorem ca_most_of_each {P : Program} {ww : World} {K : PySem.W.Frag} {mg : Str → Option Value} {base : Heap} (F : Facts K mg) : Ca P ww K mg base CX0 6 "most_of_each" (spT K (.cons menuR (.cons (lstR (lstR strR)) (.cons intR .nil))) (retN intR) w_most_of_each) := d_most_of_each.2 F
abbrev Loc_least_most := Unit

noncomputable def d_least_most : { wb : (Bs × Int × Unit) × Loc_least_most → Kn ((Bs × Int × Unit) × Loc_least_most) Int → Prop // ∀ {P : Program} {ww : World} {K : PySem.W.Frag} {mg : Str → Option Value} {base : Heap}, Facts K mg → Ca P ww K mg base CX0 7 "least_most" (spT K (.cons menuR (.cons intR .nil)) (retI intR) (wT (() : Loc_least_most) wb)) } :=
  ⟨_, fun {P ww K mg base} F => by
    obtain ⟨fd, D⟩ := fun_least_most F
    refine ⟨_, fd, ["menu", "days"], D.ok sc_least_most (fun vs H Q E h => spT_len h) (fun cdv A outer s H vs Q E hr h => ?_), D.bindsN fun _ _ _ _ _ _ us hl => match us, hl with | [_, _], _ => rfl, g_least_most F, D.kp⟩
    have hu := hu_of hr
    refine body_wT (K := K) (A := (.cons menuR (.cons intR .nil))) (R := retI intR) (Λ := Loc_least_most) (l0 := ()) (L' := [.im menuR (fun e => e.1.1), .im intR (fun e => e.1.2.1)]) (n := 0) (ts_cons (ts_ret (tx_callB (fun _ => cr_minK rfl rfl) vc_min (fun _ => rfl) (fun _ => z_min F) (by decide +kernel) (ta_cons (TN.tx (tn_call (k := 6) (fun _ => ca_most_of_each F) (mw_most_of_each) (fun _ => hr.mono (by decide)) (fun _ => rfl) (ta_cons (tx_im (i := 0) rfl (fun _ => rfl) (fun _ => Or.inl rfl)) (ta_cons (TN.tx (tn_call (k := 4) (fun _ => ca_all_packings F) (mw_all_packings) (fun _ => hr.mono (by decide)) (fun _ => rfl) (ta_cons (tx_im (i := 0) rfl (fun _ => rfl) (fun _ => Or.inl rfl)) ta_nil))) (ta_cons (tx_im (i := 1) rfl (fun _ => rfl) (fun _ => Or.inl rfl)) ta_nil))))) ta_nil))) ts_nil) (by decide) rfl (by exact h)⟩
noncomputable def w_least_most := wT (() : Loc_least_most) d_least_most.1
theorem mw_least_most : ∀ x k k', (∀ y, k y → k' y) → w_least_most x k → w_least_most x k' := up_mono
theorem ca_least_most {P : Program} {ww : World} {K : PySem.W.Frag} {mg : Str → Option Value} {base : Heap} (F : Facts K mg) : Ca P ww K mg base CX0 7 "least_most" (spT K (.cons menuR (.cons intR .nil)) (retI intR) w_least_most) := d_least_most.2 F
structure Loc_best_packings where
  packings : (List (List Str)) := []
  most : (List Int) := []
  least : Int := 0

noncomputable def d_best_packings : { wb : (Bs × Int × Unit) × Loc_best_packings → Kn ((Bs × Int × Unit) × Loc_best_packings) (List (List Str)) → Prop // ∀ {P : Program} {ww : World} {K : PySem.W.Frag} {mg : Str → Option Value} {base : Heap}, Facts K mg → Ca P ww K mg base CX0 7 "best_packings" (spT K (.cons menuR (.cons intR .nil)) (retN (lstR strR)) (wT ({} : Loc_best_packings) wb)) } :=
  ⟨_, fun {P ww K mg base} F => by
    obtain ⟨fd, D⟩ := fun_best_packings F
    refine ⟨_, fd, ["menu", "days"], D.ok sc_best_packings (fun vs H Q E h => spT_len h) (fun cdv A outer s H vs Q E hr h => ?_), D.bindsN fun _ _ _ _ _ _ us hl => match us, hl with | [_, _], _ => rfl, g_best_packings F, D.kp⟩
    have hu := hu_of hr
    refine body_wT (K := K) (A := (.cons menuR (.cons intR .nil))) (R := retN (lstR strR)) (Λ := Loc_best_packings) (l0 := {}) (L' := [.im menuR (fun e => e.1.1), .im intR (fun e => e.1.2.1), .im (lstR (lstR strR)) (fun e => e.2.packings), .im (lstR intR) (fun e => e.2.most), .im intR (fun e => e.2.least), .any, .any]) (n := 5) (ts_cons (ts_set (i := 2) (set := (fun e y => (e.1, { e.2 with packings := y }))) (L' := [.im menuR (fun e => e.1.1), .im intR (fun e => e.1.2.1), .im (lstR (lstR strR)) (fun e => e.2.packings), .any, .any, .any, .any]) (fun _ => sc_best_packings.nd) (fun _ => rfl) (fun _ => (Or.inl rfl)) (TN.tx (tn_call (k := 4) (fun _ => ca_all_packings F) (mw_all_packings) (fun _ => hr.mono (by decide)) (fun _ => rfl) (ta_cons (tx_im (i := 0) rfl (fun _ => rfl) (fun _ => Or.inl rfl)) ta_nil))) (okI_lift rfl) (.im (fun _ => rfl) (.im (fun _ => rfl) (.im (fun _ => rfl) (.any rfl (.any rfl (.any rfl (.any rfl .nil))))))))
    (ts_cons (ts_set (i := 3) (set := (fun e y => (e.1, { e.2 with most := y }))) (L' := [.im menuR (fun e => e.1.1), .im intR (fun e => e.1.2.1), .im (lstR (lstR strR)) (fun e => e.2.packings), .im (lstR intR) (fun e => e.2.most), .any, .any, .any]) (fun _ => sc_best_packings.nd) (fun _ => rfl) (fun _ => (Or.inl rfl)) (TN.tx (tn_call (k := 6) (fun _ => ca_most_of_each F) (mw_most_of_each) (fun _ => hr.mono (by decide)) (fun _ => rfl) (ta_cons (tx_im (i := 0) rfl (fun _ => rfl) (fun _ => Or.inl rfl)) (ta_cons (tx_im (i := 2) rfl (fun _ => rfl) (fun _ => Or.inl rfl)) (ta_cons (tx_im (i := 1) rfl (fun _ => rfl) (fun _ => Or.inl rfl)) ta_nil))))) (okI_lift rfl) (.im (fun _ => rfl) (.im (fun _ => rfl) (.im (fun _ => rfl) (.im (fun _ => rfl) (.any rfl (.any rfl (.any rfl .nil))))))))
    (ts_cons (ts_set (i := 4) (set := (fun e y => (e.1, { e.2 with least := y }))) (L' := [.im menuR (fun e => e.1.1), .im intR (fun e => e.1.2.1), .im (lstR (lstR strR)) (fun e => e.2.packings), .im (lstR intR) (fun e => e.2.most), .im intR (fun e => e.2.least), .any, .any]) (fun _ => sc_best_packings.nd) (fun _ => rfl) (fun _ => (Or.inr rfl)) (tx_callB (fun _ => cr_minK rfl rfl) vc_min (fun _ => rfl) (fun _ => z_min F) (by decide +kernel) (ta_cons (tx_im (i := 3) rfl (fun _ => rfl) (fun _ => Or.inl rfl)) ta_nil)) (okI_lift rfl) (.im (fun _ => rfl) (.im (fun _ => rfl) (.im (fun _ => rfl) (.im (fun _ => rfl) (.im (fun _ => rfl) (.any rfl (.any rfl .nil))))))))
    (ts_cons (ts_retN (tn_comp (bown := [("packing", 5), ("digs", 6)]) (fun _ => rfl) (fun _ => sc_best_packings.nd) (it_zip (fun _ => rfl) (fun _ => z_zip F) (ta_cons (tx_im (i := 2) rfl (fun _ => rfl) (fun _ => Or.inl rfl)) (ta_cons (tx_im (i := 3) rfl (fun _ => rfl) (fun _ => Or.inl rfl)) ta_nil))) (fun _ => blkOk_by (own := [("packing", 5), ("digs", 6)]) (N := ["menu", "days", "packings", "most", "least", "packing", "digs"]) (sc := defScope s_best_packings) (by decide +kernel)) (allB rfl) (by decide) (tgt_tup (is := [5, 6]) unp_pr (fun _ => (pgs_cons (pg_name (i := 5) sc_best_packings.nd rfl (Or.inl rfl)) (pgs_cons (pg_name (i := 6) sc_best_packings.nd rfl (Or.inl rfl)) pgs_nil))) (fun _ => rfl) rfl (allB rfl)) (tc_one (tt_cmp (fun _ => op_eq) v_eqI (tx_im (i := 6) rfl (fun _ => rfl) (fun _ => by first | exact Or.inl rfl | exact Or.inr (Or.inl rfl) | exact Or.inr (Or.inr rfl))) (tx_im (i := 4) rfl (fun _ => rfl) (fun _ => by first | exact Or.inl rfl | exact Or.inr (Or.inl rfl) | exact Or.inr (Or.inr rfl))) (nomark _))) (tx_im (i := 5) rfl (fun _ => rfl) (fun _ => by first | exact Or.inl rfl | exact Or.inr (Or.inl rfl) | exact Or.inr (Or.inr rfl))))) ts_nil)))) (by decide) rfl (by exact h)⟩
noncomputable def w_best_packings := wT ({} : Loc_best_packings) d_best_packings.1
theorem mw_best_packings : ∀ x k k', (∀ y, k y → k' y) → w_best_packings x k → w_best_packings x k' := up_mono
theorem ca_best_packings {P : Program} {ww : World} {K : PySem.W.Frag} {mg : Str → Option Value} {base : Heap} (F : Facts K mg) : Ca P ww K mg base CX0 7 "best_packings" (spT K (.cons menuR (.cons intR .nil)) (retN (lstR strR)) w_best_packings) := d_best_packings.2 F
theorem ca_pk0 {P : Program} {ww : World} {K : PySem.W.Frag} {mg : Str → Option Value} {base : Heap} (F : Facts K mg) : Ca P ww K mg base CX0 2 "_law_packings" (spT K (.cons (tupR strR) .nil) (retN (tupR strR)) (fun _ _ => False)) := by
  obtain ⟨fd, D⟩ := fun_law_packings F
  refine ⟨_, fd, ["things"], D.ok sc_law_packings (fun vs H Q E h => spT_len h) (fun cdv A outer s H vs Q E hr h => ?_), D.bindsN fun _ _ _ _ _ _ us hl => match us, hl with | [_], _ => rfl, g__law_packings F, D.kp⟩
  obtain ⟨W, x, d, ok, f⟩ := h
  exact f.elim
structure Loc_law_packings where
  found : (List (List Str)) := []

noncomputable def d_law_packings (wr : (List Str) × Unit → ((List (List Str)) → Prop) → Prop) (mr : ∀ x k k', (∀ y, k y → k' y) → wr x k → wr x k') (n : Nat) : { wb : ((List Str) × Unit) × Loc_law_packings → Kn (((List Str) × Unit) × Loc_law_packings) (List (List Str)) → Prop // ∀ {P : Program} {ww : World} {K : PySem.W.Frag} {mg : Str → Option Value} {base : Heap}, Facts K mg → Ca P ww K mg base CX0 (2 + n) "_law_packings" (spT K (.cons (tupR strR) .nil) (retN (tupR strR)) wr) → Ca P ww K mg base CX0 (2 + n + 1) "_law_packings" (spT K (.cons (tupR strR) .nil) (retN (tupR strR)) (wT ({} : Loc_law_packings) wb)) } :=
  ⟨_, fun {P ww K mg base} F cr => by
    obtain ⟨fd, D⟩ := fun_law_packings F
    refine ⟨_, fd, ["things"], D.ok sc_law_packings (fun vs H Q E h => spT_len h) (fun cdv A outer s H vs Q E hr h => ?_), D.bindsN fun _ _ _ _ _ _ us hl => match us, hl with | [_], _ => rfl, g__law_packings F, D.kp⟩
    have hu := hu_of hr
    refine body_wT (K := K) (A := (.cons (tupR strR) .nil)) (R := retN (tupR strR)) (Λ := Loc_law_packings) (l0 := {}) (L' := [.im (tupR strR) (fun e => e.1.1), .ow (tupR strR) (fun e => e.2.found), .any, .any, .any]) (n := 4) (ts_cons (ts_if (tt_cmp (fun _ => op_eq) v_eqI (tx_callB (fun _ => call_lenK rfl) vc_lenT (fun _ => rfl) (fun _ => z_len F) boot_len (ta_cons (tx_im (i := 0) rfl (fun _ => rfl) (fun _ => Or.inl rfl)) ta_nil)) tx_int (nomark _)) (ts_cons (ts_retN (tn_lst (ta_cons (tx_tup ta_nil (tu_of (lo_nil (S := strR)))) ta_nil) (lo_cons lo_nil))) ts_nil) ts_nil)
    (ts_cons (ts_own (i := 1) (set := (fun e y => (e.1, { e.2 with found := y }))) (L' := [.im (tupR strR) (fun e => e.1.1), .ow (tupR strR) (fun e => e.2.found), .any, .any, .any]) (fun _ => sc_law_packings.nd) (fun _ => rfl) (fun _ => (Or.inl rfl)) (tn_lst ta_nil (lo_nil (S := (tupR strR)))) (okI_lift rfl) (.im (fun _ => rfl) (.ow (fun _ => rfl) (.any rfl (.any rfl (.any rfl .nil))))))
    (ts_cons (ts_for (fun _ => PassesOwn.never) (fun _ => rfl) (it_enumT (fun _ => rfl) (fun _ => z_enumerate F) (tx_im (i := 0) rfl (fun _ => rfl) (fun _ => Or.inl rfl))) (tgt_tup (is := [2, 3]) unp_pr (fun _ => (pgs_cons (pg_name (i := 2) sc_law_packings.nd rfl (Or.inl rfl)) (pgs_cons (pg_name (i := 3) sc_law_packings.nd rfl (Or.inr rfl)) pgs_nil))) (fun _ => rfl) rfl (allB rfl))
    (ts_cons (ts_own (i := 1) (set := (fun e y => ((e.1.1, { e.1.2 with found := y }), e.2))) (L' := [.im (tupR strR) (fun e => e.1.1.1), .ow (tupR strR) (fun e => e.1.2.found), .im intR (fun e => e.2.1), .im strR (fun e => e.2.2), .any]) (fun _ => sc_law_packings.nd) (fun _ => rfl) (fun _ => (Or.inl rfl)) (tn_view2 (L2 := [.im (tupR strR) (fun e => e.1.1.1), .im (lstR (tupR strR)) (fun e => e.1.2.found), .im intR (fun e => e.2.1), .im strR (fun e => e.2.2), .any]) (fl2_tup (Flat.two strR.flat)) (.im (fun _ => rfl) (.fr (fun _ => rfl) (.im (fun _ => rfl) (.im (fun _ => rfl) (.any rfl .nil))))) (tn_op (fun _ => op_cat) v_cat (tx_im (i := 1) rfl (fun _ => rfl) (fun _ => Or.inl rfl)) (TN.tx (tn_comp (bown := [("row", 4)]) (fun _ => rfl) (fun _ => sc_law_packings.nd) (it_list (TN.tx (tn_call (k := 2 + n) (fun _ => cr) (mr) (fun _ => hr.mono (by omega)) (fun _ => rfl) (ta_cons (tx_op (fun _ => op_catBK rfl) v_catT (tx_sliceT (tx_im (i := 0) rfl (fun _ => rfl) (fun _ => Or.inl rfl)) to_none (to_some (tx_im (i := 2) rfl (fun _ => rfl) (fun _ => Or.inl rfl)))) (tx_sliceT (tx_im (i := 0) rfl (fun _ => rfl) (fun _ => Or.inl rfl)) (to_some (tx_op (fun _ => op_add) v_I0 (tx_im (i := 2) rfl (fun _ => rfl) (fun _ => Or.inl rfl)) tx_int)) to_none)) ta_nil)))) (fun _ => blkOk_by (own := [("row", 4)]) (N := ["things", "found", "at", "thing", "row"]) (sc := defScope s_law_packings) (by decide +kernel)) (allB rfl) (by decide) (tgt_name (i := 4) (fun _ => sc_law_packings.nd) (fun _ => rfl) (fun _ => Or.inl rfl) rfl) tc_no (tx_op (fun _ => op_catBK rfl) v_catT (tx_tup (ta_cons (tx_im (i := 3) rfl (fun _ => rfl) (fun _ => by first | exact Or.inl rfl | exact Or.inr (Or.inl rfl) | exact Or.inr (Or.inr rfl))) ta_nil) (tu_of (lo_cons lo_nil))) (tx_im (i := 4) rfl (fun _ => rfl) (fun _ => by first | exact Or.inl rfl | exact Or.inr (Or.inl rfl) | exact Or.inr (Or.inr rfl)))))))) (okI_lift rfl) (.im (fun _ => rfl) (.ow (fun _ => rfl) (.im (fun _ => rfl) (.im (fun _ => rfl) (.any rfl .nil)))))) ts_nil)
    (.im (fun _ => rfl) (.ow (fun _ => rfl) (.any rfl (.any rfl (.any rfl .nil))))))
    (ts_cons (ts_retO (i := 1) rfl (fun _ => rfl) (fun _ => Or.inl rfl)) ts_nil)))) (by decide) rfl (by exact h)⟩
noncomputable def wpk : Nat → { w : ((List Str) × Unit) → ((List (List Str)) → Prop) → Prop // ∀ x k k', (∀ y, k y → k' y) → w x k → w x k' }
  | 0 => ⟨fun _ _ => False, fun _ _ _ _ h => h⟩
  | n + 1 => ⟨wT ({} : Loc_law_packings) (d_law_packings (wpk n).1 (wpk n).2 n).1, up_mono⟩
theorem ca_pk {P : Program} {ww : World} {K : PySem.W.Frag} {mg : Str → Option Value} {base : Heap} (F : Facts K mg) : ∀ n : Nat, Ca P ww K mg base CX0 (2 + n) "_law_packings" (spT K (.cons (tupR strR) .nil) (retN (tupR strR)) (wpk n).1)
  | 0 => ca_pk0 F
  | n + 1 => (d_law_packings (wpk n).1 (wpk n).2 n).2 F (ca_pk F n)
def forBody : Stmt → List Stmt
  | .For _ _ b _ _ => b
  | _ => []
structure Loc_t_law where
  base : Bs := ⟨[], []⟩
  menu : Bs := ⟨[], []⟩
  rows : (List ((List Str) × Int)) := []
  least : Int := 0
  due : (List (List Str)) := []
  told : (List (List Str)) := []

noncomputable def d_t_law : { wb : V × Loc_t_law → Kn (V × Loc_t_law) Bool → Prop // ∀ {P : Program} {ww : World} {K : PySem.W.Frag} {mg : Str → Option Value} {base : Heap}, Facts K mg → ∀ (cdv : Value) (A : Around) (outer : List Env) (s : Shared) (H : Hp) (E : XK), Room 10 (A.deeper (PyProof.Rows.envOfC "law" (defScope s_law) s.heap.objs.size (He.ga K "law") cdv)) →
    TS (fun _ : Unit => (cxOf CX0 P ww K mg base ["script", "start", "source", "turn", "base", "menu", "days", "rows", "least", "due", "lap", "told", "packing", "number"] "law" (defScope s_law) (He.ga K "law") cdv A outer s H E).nox) K (retI boolR) ([.im vR (fun e => e.1), .any, .sr, .any, .any, .any, .any, .any, .any, .any, .any, .any, .any, .any] : List (Sl (V × Loc_t_law))) [.im vR (fun e => e.1), .any, .sr, .any, .any, .any, .any, .any, .any, .any, .any, .any, .any, .any] ([(forBody ((defBody s_law).getD 0 (.Pass ⟨0, 0, 0, 0⟩))).getD 1 (.Pass ⟨0, 0, 0, 0⟩)]) wb } :=
  ⟨_, fun {P ww K mg base} F cdv A outer s H E hr => by
    have hu := hu_of hr
    have hb := (show TS (fun _ : Unit => (cxOf CX0 P ww K mg base ["script", "start", "source", "turn", "base", "menu", "days", "rows", "least", "due", "lap", "told", "packing", "number"] "law" (defScope s_law) (He.ga K "law") cdv A outer s H E).nox) K (retI boolR) ([.im vR (fun e => e.1), .any, .sr, .any, .any, .any, .any, .any, .any, .any, .any, .any, .any, .any] : List (Sl (V × Loc_t_law))) [.im vR (fun e => e.1), .any, .sr, .any, .any, .any, .any, .any, .any, .any, .any, .any, .any, .any] ([(forBody ((defBody s_law).getD 0 (.Pass ⟨0, 0, 0, 0⟩))).getD 1 (.Pass ⟨0, 0, 0, 0⟩)]) _ from (ts_cons (ts_for (fun _ => PassesOwn.never) (fun _ => rfl) (it_range1 (fun _ => rfl) (fun _ => z_range F) tx_int) (tgt_name (i := 3) (fun _ => sc_law.nd) (fun _ => rfl) (fun _ => (Or.inl rfl)) rfl)
    (ts_cons (ts_set (i := 4) (set := (fun e y => ((e.1.1, { e.1.2 with base := y }), e.2))) (L' := [.im vR (fun e => e.1.1), .any, .sr, .im intR (fun e => e.2), .im baseR (fun e => e.1.2.base), .any, .any, .any, .any, .any, .any, .any, .any, .any]) (fun _ => sc_law.nd) (fun _ => rfl) (fun _ => (Or.inr rfl)) (tx_call (k := 5) (fun _ => ca_imp (ca_law_base F) b_base) (wBase_mono) (fun _ => hr.mono (by decide)) (fun _ => rfl) (ta_src (i := 2) rfl (fun _ => rfl) (fun _ => Or.inl rfl) (ta_cons (tx_if (tt_cmp (fun _ => op_gt) v_B0 (tx_im (i := 3) rfl (fun _ => rfl) (fun _ => Or.inl rfl)) tx_int (nomark _)) tx_int tx_int) ta_nil))) (okI_lift rfl) (.im (fun _ => rfl) (.any rfl (.sr (.im (fun _ => rfl) (.im (fun _ => rfl) (.any rfl (.any rfl (.any rfl (.any rfl (.any rfl (.any rfl (.any rfl (.any rfl (.any rfl .nil)))))))))))))))
    (ts_cons (ts_set (i := 5) (set := (fun e y => ((e.1.1, { e.1.2 with menu := y }), e.2))) (L' := [.im vR (fun e => e.1.1), .any, .sr, .im intR (fun e => e.2), .im baseR (fun e => e.1.2.base), .im menuR (fun e => e.1.2.menu), .any, .any, .any, .any, .any, .any, .any, .any]) (fun _ => sc_law.nd) (fun _ => rfl) (fun _ => (Or.inl rfl)) (tx_call (k := 7) (fun _ => ca_imp (ca_law_made F) b_made) (wMade_mono) (fun _ => hr.mono (by decide)) (fun _ => rfl) (ta_cons (tx_im (i := 4) rfl (fun _ => rfl) (fun _ => Or.inr (Or.inl rfl))) ta_nil)) (okI_lift rfl) (.im (fun _ => rfl) (.any rfl (.sr (.im (fun _ => rfl) (.im (fun _ => rfl) (.im (fun _ => rfl) (.any rfl (.any rfl (.any rfl (.any rfl (.any rfl (.any rfl (.any rfl (.any rfl .nil)))))))))))))))
    (ts_cons (ts_for (fun _ => PassesOwn.never) (fun _ => rfl) (it_list (TN.tx (tn_lst (ta_cons tx_int (ta_cons tx_int (ta_cons (tx_op (fun _ => op_add) v_I0 tx_int (tx_call (k := 1) (fun _ => ca_imp (ca_law_draw F) b_draw) (wDraw_mono) (fun _ => hr.mono (by decide)) (fun _ => rfl) (ta_src (i := 2) rfl (fun _ => rfl) (fun _ => Or.inl rfl) (ta_cons tx_int ta_nil)))) (ta_cons (tx_call (k := 1) (fun _ => ca_imp (ca_law_draw F) b_draw) (wDraw_mono) (fun _ => hr.mono (by decide)) (fun _ => rfl) (ta_src (i := 2) rfl (fun _ => rfl) (fun _ => Or.inl rfl) (ta_cons (tx_if (tt_cmp (fun _ => op_gt) v_B0 (tx_im (i := 3) rfl (fun _ => rfl) (fun _ => Or.inl rfl)) tx_int (nomark _)) tx_int tx_int) ta_nil))) ta_nil)))) (lo_cons (lo_cons (lo_cons (lo_cons lo_nil))))))) (tgt_name (i := 6) (fun _ => sc_law.nd) (fun _ => rfl) (fun _ => (Or.inr rfl)) rfl)
    (ts_cons (ts_setC (set := (fun e y => (((e.1.1.1, { e.1.1.2 with rows := y }), e.1.2), e.2))) (L' := [.im vR (fun e => e.1.1.1), .any, .sr, .im intR (fun e => e.1.2), .im baseR (fun e => e.1.1.2.base), .im menuR (fun e => e.1.1.2.menu), .im intR (fun e => e.2), .im (lstR (prR (tupR strR) intR)) (fun e => e.1.1.2.rows), .any, .any, .any, .any, .any, .any]) (tna_comp (i := 7) (bown := [("packing", 12)]) (fun _ => rfl) (fun _ => sc_law.nd) (it_list (TN.tx (tn_call (k := 8) (fun _ => ca_pk F 6) ((wpk 6).2) (fun _ => hr.mono (by decide)) (fun _ => rfl) (ta_cons (tx_prj (n := 0) unp_base .zero (tx_im (i := 4) rfl (fun _ => rfl) (fun _ => Or.inr (Or.inl rfl)))) ta_nil)))) (fun _ => blkOk_by (own := [("packing", 12)]) (N := ["script", "start", "source", "turn", "base", "menu", "days", "rows", "least", "due", "lap", "told", "packing", "number"]) (sc := defScope s_law) (by decide +kernel)) (allB rfl) (by decide) (tgt_name (i := 12) (fun _ => sc_law.nd) (fun _ => rfl) (fun _ => Or.inl rfl) rfl) tc_no (tx_tup (ta_cons (tx_im (i := 12) rfl (fun _ => rfl) (fun _ => by first | exact Or.inl rfl | exact Or.inr (Or.inl rfl) | exact Or.inr (Or.inr rfl))) (ta_cons (tx_call (k := 3) (fun _ => ca_law_rows F) (mw_law_rows) (fun _ => hr.mono (by decide)) (fun _ => rfl) (ta_cons (tx_im (i := 4) rfl (fun _ => rfl) (fun _ => by first | exact Or.inl rfl | exact Or.inr (Or.inl rfl) | exact Or.inr (Or.inr rfl))) (ta_cons (tx_im (i := 12) rfl (fun _ => rfl) (fun _ => by first | exact Or.inl rfl | exact Or.inr (Or.inl rfl) | exact Or.inr (Or.inr rfl))) (ta_cons (tx_im (i := 6) rfl (fun _ => rfl) (fun _ => by first | exact Or.inl rfl | exact Or.inr (Or.inl rfl) | exact Or.inr (Or.inr rfl))) (ta_cons tx_int ta_nil))))) ta_nil)) tu_pr) (fun _ => rfl) (fun _ => rfl) (fun _ => sw_true rfl rfl rfl (by decide +kernel))) (okI_lift rfl) (.im (fun _ => rfl) (.any rfl (.sr (.im (fun _ => rfl) (.im (fun _ => rfl) (.im (fun _ => rfl) (.im (fun _ => rfl) (.im (fun _ => rfl) (.any rfl (.any rfl (.any rfl (.any rfl (.any rfl (.any rfl .nil)))))))))))))))
    (ts_cons (ts_set (i := 8) (set := (fun e y => (((e.1.1.1, { e.1.1.2 with least := y }), e.1.2), e.2))) (L' := [.im vR (fun e => e.1.1.1), .any, .sr, .im intR (fun e => e.1.2), .im baseR (fun e => e.1.1.2.base), .im menuR (fun e => e.1.1.2.menu), .im intR (fun e => e.2), .im (lstR (prR (tupR strR) intR)) (fun e => e.1.1.2.rows), .im intR (fun e => e.1.1.2.least), .any, .any, .any, .any, .any]) (fun _ => sc_law.nd) (fun _ => rfl) (fun _ => (Or.inr rfl)) (tx_callB (fun _ => cr_minK rfl rfl) vc_min (fun _ => rfl) (fun _ => z_min F) (by decide +kernel) (ta_cons (TN.tx (tn_comp (bown := [("packing", 12), ("number", 13)]) (fun _ => rfl) (fun _ => sc_law.nd) (it_list (tx_im (i := 7) rfl (fun _ => rfl) (fun _ => Or.inl rfl))) (fun _ => blkOk_by (own := [("packing", 12), ("number", 13)]) (N := ["script", "start", "source", "turn", "base", "menu", "days", "rows", "least", "due", "lap", "told", "packing", "number"]) (sc := defScope s_law) (by decide +kernel)) (allB rfl) (by decide) (tgt_tup (is := [12, 13]) unp_pr (fun _ => (pgs_cons (pg_name (i := 12) sc_law.nd rfl (Or.inl rfl)) (pgs_cons (pg_name (i := 13) sc_law.nd rfl (Or.inl rfl)) pgs_nil))) (fun _ => rfl) rfl (allB rfl)) tc_no (tx_im (i := 13) rfl (fun _ => rfl) (fun _ => by first | exact Or.inl rfl | exact Or.inr (Or.inl rfl) | exact Or.inr (Or.inr rfl))))) ta_nil)) (okI_lift rfl) (.im (fun _ => rfl) (.any rfl (.sr (.im (fun _ => rfl) (.im (fun _ => rfl) (.im (fun _ => rfl) (.im (fun _ => rfl) (.im (fun _ => rfl) (.im (fun _ => rfl) (.any rfl (.any rfl (.any rfl (.any rfl (.any rfl .nil)))))))))))))))
    (ts_cons (ts_setC (set := (fun e y => (((e.1.1.1, { e.1.1.2 with due := y }), e.1.2), e.2))) (L' := [.im vR (fun e => e.1.1.1), .any, .sr, .im intR (fun e => e.1.2), .im baseR (fun e => e.1.1.2.base), .im menuR (fun e => e.1.1.2.menu), .im intR (fun e => e.2), .im (lstR (prR (tupR strR) intR)) (fun e => e.1.1.2.rows), .im intR (fun e => e.1.1.2.least), .im (lstR (lstR strR)) (fun e => e.1.1.2.due), .any, .any, .any, .any]) (tna_comp (i := 9) (bown := [("packing", 12), ("number", 13)]) (fun _ => rfl) (fun _ => sc_law.nd) (it_list (tx_im (i := 7) rfl (fun _ => rfl) (fun _ => Or.inl rfl))) (fun _ => blkOk_by (own := [("packing", 12), ("number", 13)]) (N := ["script", "start", "source", "turn", "base", "menu", "days", "rows", "least", "due", "lap", "told", "packing", "number"]) (sc := defScope s_law) (by decide +kernel)) (allB rfl) (by decide) (tgt_tup (is := [12, 13]) unp_pr (fun _ => (pgs_cons (pg_name (i := 12) sc_law.nd rfl (Or.inl rfl)) (pgs_cons (pg_name (i := 13) sc_law.nd rfl (Or.inl rfl)) pgs_nil))) (fun _ => rfl) rfl (allB rfl)) (tc_one (tt_cmp (fun _ => op_eq) v_eqI (tx_im (i := 13) rfl (fun _ => rfl) (fun _ => by first | exact Or.inl rfl | exact Or.inr (Or.inl rfl) | exact Or.inr (Or.inr rfl))) (tx_im (i := 8) rfl (fun _ => rfl) (fun _ => by first | exact Or.inl rfl | exact Or.inr (Or.inl rfl) | exact Or.inr (Or.inr rfl))) (nomark _))) (TN.tx (tn_callTy (fun _ => call_listK rfl) vc_listT (fun _ => rfl) (fun _ => z_list F) (by decide +kernel) (ta_cons (tx_im (i := 12) rfl (fun _ => rfl) (fun _ => by first | exact Or.inl rfl | exact Or.inr (Or.inl rfl) | exact Or.inr (Or.inr rfl))) ta_nil))) (fun _ => rfl) (fun _ => rfl) (fun _ => sw_true rfl rfl rfl (by decide +kernel))) (okI_lift rfl) (.im (fun _ => rfl) (.any rfl (.sr (.im (fun _ => rfl) (.im (fun _ => rfl) (.im (fun _ => rfl) (.im (fun _ => rfl) (.im (fun _ => rfl) (.im (fun _ => rfl) (.im (fun _ => rfl) (.any rfl (.any rfl (.any rfl (.any rfl .nil)))))))))))))))
    (ts_cons (ts_if (tt_cmp (fun _ => op_ne) v_neI (tx_call (k := 7) (fun _ => ca_least_most F) (mw_least_most) (fun _ => hr.mono (by decide)) (fun _ => rfl) (ta_cons (tx_im (i := 5) rfl (fun _ => rfl) (fun _ => Or.inl rfl)) (ta_cons (tx_im (i := 6) rfl (fun _ => rfl) (fun _ => Or.inr (Or.inl rfl))) ta_nil))) (tx_im (i := 8) rfl (fun _ => rfl) (fun _ => Or.inr (Or.inl rfl))) (nomark _)) (ts_cons (ts_ret tx_bl) ts_nil) ts_nil)
    (ts_cons (ts_for (fun _ => PassesOwn.never) (fun _ => rfl) (it_range1 (fun _ => rfl) (fun _ => z_range F) tx_int) (tgt_name (i := 10) (fun _ => sc_law.nd) (fun _ => rfl) (fun _ => (Or.inl rfl)) rfl)
    (ts_told (i := 11) (j := 9) (k := 7) (fun _ => ca_best_packings F) (mw_best_packings) (fun _ => hr.mono (by decide)) (fun _ => rfl) (ta_cons (tx_im (i := 5) rfl (fun _ => rfl) (fun _ => Or.inl rfl)) (ta_cons (tx_im (i := 6) rfl (fun _ => rfl) (fun _ => Or.inr (Or.inl rfl))) ta_nil)) rfl rfl (by decide) (fun _ => sc_law.nd) (fun _ => rfl) (fun _ => rfl) (fun _ => (Or.inl rfl)) (fun _ => Or.inl rfl) (fun _ => Or.inl rfl) (fun _ => rfl) (fun _ => op_neD hr.units) (A1 := fun _ => pe_bm PySem.F.plainAttrs_list PySem.F.slot_list_append PySem.F.type_list_append mt_append (pe_ix (ix_listK rfl) (pe_var (i := 11) rfl (Or.inl rfl)) pe_int (fun _ _ => rfl)) (pa_cons pe_str pa_nil)) (A2 := fun _ => pe_bm PySem.F.plainAttrs_list PySem.F.slot_list_append PySem.F.type_list_append mt_append (pe_var (i := 11) rfl (Or.inl rfl)) (pa_cons (pe_lst pa_nil) pa_nil)))
    (.im (fun _ => rfl) (.any rfl (.sr (.im (fun _ => rfl) (.im (fun _ => rfl) (.im (fun _ => rfl) (.im (fun _ => rfl) (.im (fun _ => rfl) (.im (fun _ => rfl) (.im (fun _ => rfl) (.any rfl (.any rfl (.any rfl (.any rfl .nil))))))))))))))) ts_nil)))))
    (.im (fun _ => rfl) (.any rfl (.sr (.im (fun _ => rfl) (.im (fun _ => rfl) (.im (fun _ => rfl) (.any rfl (.any rfl (.any rfl (.any rfl (.any rfl (.any rfl (.any rfl (.any rfl .nil)))))))))))))))
    (ts_cons (ts_if (tt_cmp (fun _ => (op_neM (cm_Menu_eq F) (menuI F).obj (menuI F).ne (pass0) (hr.mono (by decide)) hu)) (v_neM F) (tx_im (i := 5) rfl (fun _ => rfl) (fun _ => Or.inl rfl)) (tx_call (k := 7) (fun _ => ca_imp (ca_law_made F) b_made) (wMade_mono) (fun _ => hr.mono (by decide)) (fun _ => rfl) (ta_cons (tx_im (i := 4) rfl (fun _ => rfl) (fun _ => Or.inr (Or.inl rfl))) ta_nil)) (nomark _)) (ts_cons (ts_ret tx_bl) ts_nil) ts_nil) ts_nil))))
    (.im (fun _ => rfl) (.any rfl (.sr (.any rfl (.any rfl (.any rfl (.any rfl (.any rfl (.any rfl (.any rfl (.any rfl (.any rfl (.any rfl (.any rfl .nil))))))))))))))) ts_nil))
    exact hb⟩
end K20


namespace K20
open PySem PySem.Spec PyProof.Rows L2 Gx Tx Px
theorem r_digs_forT {lying wishes : List Str} {k : Int → Prop} (nd : lying.Nodup) (nw : wishes.Nodup) (h : ∀ x ∈ wishes, x ∈ lying) (hl : lying.length ≤ 1000) (hk : k (digsP lying wishes)) : w_digs_forT (lying, wishes, ()) k := by
  unfold w_digs_forT wT d_digs_forT
  refine up_of fun k' hm => ?_
  dsimp only
  refine wFor_rem (fun rest e => e.2.lying.Nodup ∧ rest.Nodup ∧ (∀ x ∈ rest, x ∈ e.2.lying) ∧ e.2.lying.length ≤ 1000 ∧ k' (e.2.made + (digsP e.2.lying rest : Int))) (fun x rest e kn ⟨i1, i2, i3, i4, i5⟩ hn _ => ?st) (fun e ⟨_, _, _, _, i5⟩ => ?dn) ⟨nd, nw, h, hl, ?«in»⟩
  case st =>
    have hx := i3 x List.mem_cons_self
    have lt := idxS_lt hx
    have er : e.2.lying.eraseIdx ((idxS e.2.lying x : Int)).toNat = e.2.lying.filter fun z => !decide (z = x) := by
      rw [Int.toNat_natCast]
      exact erase_idx hx i1
    rw [List.nodup_cons] at i2
    refine ⟨hx, ⟨by omega, by show (idxS e.2.lying x : Int) < (e.2.lying.length : Int); omega, by show e.2.lying.length < _; omega⟩, hn _ ⟨?_, i2.2, fun y hy => ?_, ?_, ?_⟩⟩
    · show (e.2.lying.eraseIdx _).Nodup
      rw [er]
      exact i1.filter _
    · show y ∈ e.2.lying.eraseIdx _
      rw [er, List.mem_filter]
      refine ⟨i3 y (List.mem_cons_of_mem _ hy), ?_⟩
      rw [decide_eq_false (fun z => i2.1 (by rw [← z]; exact hy))]
      rfl
    · show (e.2.lying.eraseIdx _).length ≤ 1000
      rw [er]
      exact Nat.le_trans (List.length_filter_le _ _) i4
    · show k' (e.2.made + (idxS e.2.lying x : Int) + (digsP (e.2.lying.eraseIdx _) rest : Int))
      rw [er]
      have q : (digsP e.2.lying (x :: rest) : Int) = (idxS e.2.lying x : Int) + (digsP (e.2.lying.filter fun z => !decide (z = x)) rest : Int) := by
        show ((idxS e.2.lying x + digsP _ rest : Nat) : Int) = _
        omega
      rw [q] at i5
      rw [Int.add_assoc]
      exact i5
  case dn =>
    have : k' (e.2.made + ((0 : Nat) : Int)) := i5
    simpa using this
  case «in» =>
    have : k' ((0 : Int) + (digsP lying wishes : Int)) := by
      rw [Int.zero_add]
      exact hm _ hk
    exact this
theorem r_put_behindT {lying wishes : List Str} {back : Str} {k : List Str → Prop} (h1 : lying.length ≤ 400) (h2 : wishes.length ≤ 400) (hk : k (behindP lying wishes back)) : w_put_behindT (lying, wishes, back, ()) k := by
  unfold w_put_behindT wT d_put_behindT
  refine up_of fun k' hm => ?_
  dsimp only
  have q := hm _ hk
  show if decide (back = "place") = true then k' lying else _
  unfold behindP at q
  by_cases c : back = "place"
  · rw [if_pos c] at q
    rw [if_pos (decide_eq_true c)]
    exact q
  · rw [if_neg c] at q
    rw [if_neg (by simpa using c)]
    refine ⟨le_line (by show lying.length ≤ 1000; omega), wComp_k ?_⟩
    rw [List.map_id']
    refine ⟨le_line ?_, q⟩
    have := List.length_filter_le (fun z => !decide (z ∈ wishes)) lying
    show wishes.reverse.length + (lying.filter fun z => !decide (z ∈ wishes)).length ≤ 1000
    rw [List.length_reverse]
    omega
theorem r_live_through {b : Bs} (wf : WF b) {ps : List (List Str)} {e : Ent} (he : e ∈ b.ws) (ne : ps ≠ []) (sm : ps.length ≤ 400) (pk : ∀ p ∈ ps, PackP b p) {k : Int × (List (List Str) × List Str) → Prop} (h : k (gainP ps e.wishes, (ps.map fun p => behindP p e.wishes e.back, e.later))) : w_live_through (ps, (e.wishes, e.back, e.later), ()) k := by
  unfold w_live_through wT d_live_through
  refine up_of fun k' hm => ?_
  dsimp only
  have t5 := wf.t5
  have wl := wish_len wf he
  have we := wf.we e he
  have pl : ∀ p ∈ ps, p.length ≤ 5 := fun p hp => by rw [(pk p hp).len]; exact t5
  refine ⟨le_line (by omega), ?_⟩
  refine wComp_rel (fun p (z : Int) => z = (digsP p e.wishes : Int)) (fun p hp kn hk => ?_) (fun ys py => ?_)
  · exact r_digs_forT ((pk p hp).nd wf) we.wd (fun x hx => (pk p hp).mem_iff.mpr (we.w x hx)) (by have := pl p hp; show p.length ≤ 1000; omega) (hk _ rfl)
  · have ey : ys = ps.map fun p => (digsP p e.wishes : Int) := Paired.map_of py
    subst ey
    refine ⟨le_line (by omega), ?_⟩
    refine wComp_rel (fun p z => z = behindP p e.wishes e.back) (fun p hp kn hk => ?_) (fun zs pz => ?_)
    · exact r_put_behindT (by have := pl p hp; show p.length ≤ 400; omega) (by show e.wishes.length ≤ 400; omega) (hk _ rfl)
    · have ez : zs = ps.map fun p => behindP p e.wishes e.back := Paired.map_of pz
      subst ez
      match ps, ne with
      | p :: rest, _ =>
        refine ⟨(digsP p e.wishes : Int), by rw [List.nil_append, show (0 : Int) = ((0 : Nat) : Int) from rfl, atI_cast]; rfl, ?_⟩
        have cut : cutL ((p :: rest).map fun p => (digsP p e.wishes : Int)) (some 1) none = rest.map fun p => (digsP p e.wishes : Int) := cut_tail
        rw [List.nil_append, List.nil_append, cut]
        exact hm _ h
theorem r_ways (x : Bs × List (List (List Str)) × Unit) (k : List (List (Str × Int × Int)) → Prop) (h : wWays x k) : w_ways_from x k := by
  obtain ⟨b, starts, u⟩ := x
  obtain ⟨wf, ne, few, sn, sp, hk⟩ := h
  unfold w_ways_from wT d_ways_from
  refine up_of fun k' hm => ?_
  dsimp only
  have wd := wf.wd
  have w4 : b.names.length ≤ 4 := by have := wf.w4; unfold Bs.names; simpa using this
  have ent : ∀ {y : Str}, y ∈ b.names → ∃ en, en ∈ b.ws ∧ en.name = y := fun {y} hy => by
    obtain ⟨en, h1, h2⟩ := List.mem_map.mp hy
    exact ⟨en, h1, h2⟩
  refine ⟨le_line (by show b.names.length ≤ 1000; omega), ?_⟩
  refine wDc_map (kf := id) (g := gT b) (fun y hy kn hg => ?_) (by simpa using wd) ?_
  · obtain ⟨en, he, rfl⟩ := ent hy
    rw [gT_of wd he] at hg
    exact ⟨wd, en, he, rfl, wd, en, he, rfl, wd, en, he, rfl, hg⟩
  have e1 : ([] ++ b.names.map fun y => (id y, gT b y)) = tabP b := by simp [tabP]
  rw [e1]
  refine ⟨le_line few, ?_⟩
  have first : cutL b.names none (some 1) = firstP b := cut_first (fun z => by
    have := wf.w1
    unfold Bs.names at z
    rw [List.map_eq_nil_iff] at z
    rw [z] at this
    simp at this)
  refine wComp_rel (fun s (m : Morn) => m = (s, firstP b)) (fun s hs kn hn => ?_) (fun ys py => ?_)
  · have := (sp s hs).2.1
    refine ⟨le_line (by show s.length ≤ 1000; omega), ?_⟩
    refine wComp_k (p := fun _ => true) (f := fun q => q.2) ?_
    have e2 : ((s.filter fun _ => true).map fun q => q) = s := by
      rw [List.filter_eq_self.mpr fun _ _ => rfl, List.map_id']
    show kn (((s.filter fun _ => true).map fun q => q), cutL b.names none (some 1))
    rw [e2, first]
    exact hn _ rfl
  have ey : ys = starts.map fun s => ((s, firstP b) : Morn) := Paired.map_of py
  rw [List.nil_append]
  have yl : ys.length = starts.length := by rw [ey, List.length_map]
  refine ⟨le_line (by rw [List.length_map, List.length_zipIdx, yl]; exact few), ?_⟩
  have ynd : ys.Nodup := by
    rw [ey]
    exact List.Pairwise.map _ (fun a c hne z => hne (congrArg Prod.fst z)) sn
  have keys : (ys.zipIdx.map fun q => (((q.2 : Nat) : Int), q.1)).map (fun q => q.2) = ys := by
    rw [List.map_map]
    show ys.zipIdx.map Prod.fst = ys
    simp
  refine wDc_map (kf := fun q : Int × Morn => q.2) (g := fun q : Int × Morn => q.1) (fun q _ kn hg => hg) (by rw [List.map_nil, List.nil_append, keys]; exact ynd) ?_
  have en : ([] ++ (ys.zipIdx.map fun q => (((q.2 : Nat) : Int), q.1)).map fun q => (q.2, q.1)) = numP ys := by
    unfold numP
    rw [List.nil_append, List.map_map]
    rfl
  rw [en]
  have ymp : ∀ m ∈ ys, MornP b m := fun m hmm => by
    rw [ey] at hmm
    obtain ⟨s, hs, rfl⟩ := List.mem_map.mp hmm
    obtain ⟨q1, q2, q3⟩ := sp s hs
    refine ⟨?_, q3, List.mem_cons_self⟩
    have := List.length_pos_iff.mpr q1
    show s.length = 1 ∨ s.length = 2
    omega
  have i0 : WInv b starts ys [] := ⟨ynd, ymp, Nat.zero_le _, fun i hi => by rw [ey, List.getElem?_map, List.getElem?_eq_getElem hi]; rfl, fun n m hn => by cases hn⟩
  refine ⟨72601, wWhile_inv (fun e => e.1 = (b, starts, u) ∧ e.2.table = tabP b ∧ e.2.numbers = numP e.2.mornings ∧ WInv b starts e.2.mornings e.2.ways) (fun e => e.2.ways.length) 72600 (fun e ⟨_, _, _, i⟩ => Nat.le_trans i.le (mornings_few wf i.nd i.mp)) (fun e kn ⟨he1, he2, he3, i⟩ hn hr => ?_) _ _ ⟨rfl, rfl, rfl, i0⟩ (by show 72600 + 1 ≤ 72601 + 0; omega)⟩
  show if decide ((e.2.ways.length : Int) < (e.2.mornings.length : Int)) = true then _ else _
  by_cases c : e.2.ways.length < e.2.mornings.length
  case neg =>
    rw [if_neg (by simpa using c)]
    have le := i.le
    exact hm _ (hk _ _ (i.ok wf (by omega)))
  rw [if_pos (decide_eq_true (by omega))]
  have hmm : e.2.mornings[e.2.ways.length]? = some e.2.mornings[e.2.ways.length] := List.getElem?_eq_getElem c
  generalize e.2.mornings[e.2.ways.length] = m at hmm
  refine ⟨m, by rw [atI_cast]; exact hmm, ?_⟩
  have mq := i.mp m (List.mem_of_getElem? hmm)
  obtain ⟨r1, r2, r3⟩ := rowsM_names wf mq.row
  refine wFor_rem (fun rest e' => e'.1 = (b, starts, u) ∧ e'.2.table = tabP b ∧ e'.2.ways = e.2.ways ∧ e'.2.lying = m.1 ∧ e'.2.numbers = numP e'.2.mornings ∧ (∃ ext, e'.2.mornings = e.2.mornings ++ ext) ∧ e'.2.mornings.Nodup ∧ (∀ m ∈ e'.2.mornings, MornP b m) ∧ ∃ done, m.2 = done ++ rest ∧ RowN b e'.2.mornings m e'.2.on done.length)
    (fun y rest e' kn' ⟨j1, j2, j3, j4, j5, ⟨ext, j6⟩, j7, j8, done, j9, j10⟩ hn' _ => ?_) (fun e' ⟨j1, j2, j3, j4, j5, ⟨ext, j6⟩, j7, j8, done, j9, j10⟩ => ?_) ⟨he1, he2, rfl, rfl, he3, ⟨[], by rw [List.append_nil]⟩, i.nd, i.mp, [], rfl, ⟨rfl, fun j x lt => absurd lt (Nat.not_lt_zero _)⟩⟩
  · have ym : y ∈ b.names := r1 y (by rw [j9]; simp)
    obtain ⟨en, he, rfl⟩ := ent ym
    have dl : done.length ≤ 4 := by
      have := congrArg List.length j9
      rw [List.length_append] at this
      omega
    have ol : e'.2.on.length < sizeLine := by
      rw [j10.len]
      exact le_line'' (by omega)
    have ml := mornings_few wf j7 j8
    refine ⟨gT b en.name, by show getK e'.2.table en.name = _; rw [j2]; exact getK_map ym, ?_⟩
    rw [gT_of wd he]
    show w_live_through (e'.2.lying, _, ()) _
    rw [j4]
    refine r_live_through wf he (fun z => by rcases mq.one with o | o <;> rw [z] at o <;> simp at o) (by rcases mq.one with o | o <;> omega) mq.pk ?_
    dsimp only
    show if (true != (getK e'.2.numbers (afterP m en)).isSome) = true then _ else _
    rw [j5]
    rcases q : getK (numP e'.2.mornings) (afterP m en) with _ | z
    · have new := numP_new q
      rw [if_pos (show (true != (none : Option Int).isSome) = true from rfl)]
      refine ⟨q, by rw [numP_len]; exact le_line'' (by omega), le_line'' (by omega), _, numP_last q, ol, hn' _ ⟨j1, j2, j3, rfl, ?_, ⟨ext ++ [afterP m en], ?_⟩, ?_, ?_, done ++ [en.name], ?_, ?_⟩⟩
      · exact numP_app.symm
      · show e'.2.mornings ++ [afterP m en] = _
        rw [j6, List.append_assoc]
      · show (e'.2.mornings ++ [afterP m en]).Nodup
        rw [List.nodup_append]
        refine ⟨j7, by simp, fun a ha c hc z => ?_⟩
        rw [List.mem_singleton] at hc
        exact new (by rw [← hc, ← z]; exact ha)
      · intro m' hm'
        rcases List.mem_append.mp hm' with hm' | hm'
        · exact j8 m' hm'
        · rw [List.mem_singleton.mp hm']
          exact after_morn wf mq he
      · rw [j9]
        simp
      · refine (RowN.app j10).snoc j9 he ?_
        rw [List.getElem?_append_right (Nat.le_refl _), Nat.sub_self]
        rfl
    · rw [if_neg (show ¬ (true != (some z : Option Int).isSome) = true from by simp)]
      obtain ⟨kk, rfl, hkk⟩ := numP_num q
      exact ⟨_, q, ol, hn' _ ⟨j1, j2, j3, rfl, rfl, ⟨ext, j6⟩, j7, j8, done ++ [en.name], by rw [j9]; simp, j10.snoc j9 he hkk⟩⟩
  · have ml := mornings_few wf i.nd i.mp
    have le := i.le
    have dl : done.length = m.2.length := by rw [j9, List.append_nil]
    refine ⟨le_line'' (by show e'.2.ways.length ≤ 1000000; rw [j3]; omega), hn _ ⟨j1, j2, j5, ?_⟩ ?_⟩
    · show WInv b starts e'.2.mornings (e'.2.ways ++ [e'.2.on])
      rw [j3, j6]
      rw [j6] at j7 j8 j10
      exact i.next hmm j7 j8 (by rw [← dl]; exact j10)
    · show e.2.ways.length < (e'.2.ways ++ [e'.2.on]).length
      rw [j3]
      simp
end K20

namespace K20
open PySem PySem.Spec PyProof.Rows L2 Gx Tx Px
section
variable {b : Bs} {starts : List (List (List Str))} {ways : List (List (Str × Int × Int))} {M : List Morn} {sign days : Int}
theorem r_best_gains {k : List (List Int) → Prop} (wf : WF b) (wo : WaysOk b starts ways M) (hs : sign = 1 ∨ sign = -1) (h0 : 0 ≤ days) (h1 : days ≤ 1000) (hk : ∀ rows : List (List Int), rows.length = days.toNat + 1 → RowsOk b M sign rows → k rows) : w_best_gains (ways, days, sign, ()) k := by
  unfold w_best_gains wT d_best_gains
  refine up_of fun k' hm => ?_
  dsimp only
  have few := wo.few
  have wl := wo.len
  have line := sizeLine_eq
  refine ⟨by omega, by omega, by rw [Int.toNat_natCast]; simp only [List.length_cons, List.length_nil]; omega, ⟨by omega, by omega⟩, ?_⟩
  rw [Int.toNat_natCast, flat_rep]
  refine wFor_rem (fun rest e => e.1 = (ways, days, sign, ()) ∧ RowsOk b M sign e.2.rows ∧ ∃ m : Nat, rest = (List.range' m (days.toNat - m)).map (fun (i : Nat) => (i : Int)) ∧ m ≤ days.toNat ∧ e.2.rows.length = m + 1) (fun x rest e kn ⟨ie, ir, m, im, il, ik⟩ hn _ => ?st) (fun e ⟨ie, ir, m, im, il, ik⟩ => ?dn) ⟨rfl, ?i1, 0, ?i2, by omega, rfl⟩
  case i1 =>
    intro d row e
    have : d = 0 := by
      rcases d with _ | d
      · rfl
      · simp at e
    subst this
    simp at e
    subst e
    rw [wl]
    exact row_zero
  case i2 =>
    show rangeL days = _
    unfold rangeL
    rw [List.range_eq_range']
    simp
  case dn =>
    have : m = days.toNat := by
      rcases q : days.toNat - m with _ | j
      · omega
      · rw [q, List.range'_succ] at im
        cases im
    exact hm _ (hk _ (by omega) ir)
  case st =>
    have lt : m < days.toNat := by
      rcases q : days.toNat - m with _ | j
      · rw [q] at im
        cases im
      · omega
    have sp : days.toNat - m = (days.toNat - (m + 1)) + 1 := by omega
    rw [sp, List.range'_succ, List.map_cons] at im
    obtain ⟨rfl, rest'⟩ := List.cons.inj im
    have lm : m < e.2.rows.length := by omega
    refine ⟨e.2.rows[m], by rw [atI_cast]; exact List.getElem?_eq_getElem lm, ?_⟩
    have ra := ir m _ (List.getElem?_eq_getElem lm)
    have e1 : e.1.1 = ways := by rw [ie]
    have e3 : e.1.2.2.1 = sign := by rw [ie]
    refine ⟨le_line' (by rw [e1]; omega), ?_⟩
    rw [e1]
    refine wComp_rel (Best sign e.2.rows[m]) (fun on hon kn hkn => ?_) (fun ys p => ?_)
    · obtain ⟨n, hn', en⟩ := List.mem_iff_getElem.mp hon
      have ho : ways[n]? = some on := by rw [List.getElem?_eq_getElem hn', en]
      have hM : M[n]? = some (M[n]'(by omega)) := List.getElem?_eq_getElem (by omega)
      obtain ⟨on', h1', h2', h3'⟩ := wo.way n _ hM
      rw [ho] at h1'
      cases h1'
      have pk := wo.pack _ (List.mem_of_getElem? hM)
      have l4 : on.length ≤ 1000 := by
        have := pk.2.2.2.2
        omega
      refine ⟨le_line l4, ?_⟩
      refine wComp_rel (Val sign e.2.rows[m]) (fun w hw kn' hkn' => ?_) (fun xs px => ?_)
      · obtain ⟨en', he, hin, w1, w2, kk, w3, hkk⟩ := ways_val wf wo ra hM ho hw
        obtain ⟨v', hv', _⟩ := ra.2 kk _ hkk
        refine ⟨.inl ?_, v', ?_, ?_⟩
        · rw [e3]
          rcases hs with rfl | rfl <;> decide
        · rw [w3, atI_cast]
          exact hv'
        · rw [e3]
          exact hkn' _ ⟨v', by rw [w3, atI_cast]; exact hv', rfl⟩
      · refine ⟨?_, fun y hy hmax => hkn y ⟨xs, px, hy, hmax⟩⟩
        show 0 < ([] ++ xs).length
        rw [List.nil_append, ← Paired.length px, h2']
        exact List.length_pos_iff.mpr pk.2.2.2.1
    · refine ⟨le_line'' (by rw [ik]; omega), hn _ ⟨ie, ?_, m + 1, rest', by omega, ?_⟩⟩
      · show RowsOk b M sign (e.2.rows ++ [[] ++ ys])
        rw [List.nil_append]
        refine rows_snoc ir ?_
        rw [ik]
        exact row_step wf wo ra p
      · show (e.2.rows ++ [[] ++ ys]).length = m + 1 + 1
        rw [List.length_append, ik]
        rfl
/-- the greatest gain of the trips of so many days from the menu's first morning -/
def MaxP (b : Bs) (p : List Str) (sign : Int) (n : Nat) (v : Int) : Prop := (∀ t : List Str, t.length = n → TripP b (firstP b) t → sign * tripDigs b p t ≤ v) ∧ ∃ t : List Str, t.length = n ∧ TripP b (firstP b) t ∧ sign * tripDigs b p t = v
end
end K20

/-! sequences of things in their order; which packings fit -/
namespace Px
open PySem PySem.Spec PyProof.Rows L2 Gx Tx Pm
theorem erase_perm {α : Type} : ∀ {xs : List α} {d : Nat} (h : d < xs.length), (xs[d] :: xs.eraseIdx d).Perm xs
  | x :: xs, 0, _ => .refl _
  | x :: xs, d + 1, h => by
    have h' : d < xs.length := by simpa using h
    show (xs[d] :: x :: xs.eraseIdx d).Perm (x :: xs)
    exact (List.Perm.swap _ _ _).trans ((erase_perm h').cons _)
theorem lexF_perm : ∀ (k : Nat) {xs p : List Str}, xs.length = k → p ∈ lexF k xs → p.Perm xs
  | 0, xs, p, h, hp => by
    rw [List.length_eq_zero_iff.mp h]
    rw [List.mem_singleton.mp hp]
  | k + 1, xs, p, h, hp => by
    unfold lexF at hp
    obtain ⟨d, hd, hp⟩ := List.mem_flatMap.mp hp
    have lt : d < xs.length := List.mem_range.mp hd
    rw [List.getElem?_eq_getElem lt] at hp
    obtain ⟨r, hr, rfl⟩ := List.mem_map.mp hp
    have len : (xs.eraseIdx d).length = k := by
      rw [List.length_eraseIdx_of_lt lt]
      omega
    have q := lexF_perm k len hr
    exact (q.cons _).trans (erase_perm lt)
theorem lexF_mem : ∀ (k : Nat) {xs p : List Str}, xs.length = k → p.Perm xs → p ∈ lexF k xs
  | 0, xs, p, h, hp => by
    have e : xs = [] := List.length_eq_zero_iff.mp h
    subst e
    rw [List.perm_nil.mp hp]
    exact List.mem_singleton.mpr rfl
  | k + 1, xs, [], h, hp => by
    have := hp.length_eq
    simp at this
    omega
  | k + 1, xs, x :: r, h, hp => by
    have hx : x ∈ xs := hp.mem_iff.mp List.mem_cons_self
    obtain ⟨d, lt, ed⟩ := List.mem_iff_getElem.mp hx
    have len : (xs.eraseIdx d).length = k := by
      rw [List.length_eraseIdx_of_lt lt]
      omega
    have q : r.Perm (xs.eraseIdx d) := by
      have z := erase_perm lt
      rw [ed] at z
      exact List.Perm.cons_inv (hp.trans z.symm)
    unfold lexF
    refine List.mem_flatMap.mpr ⟨d, List.mem_range.mpr lt, ?_⟩
    rw [List.getElem?_eq_getElem lt, ed]
    exact List.mem_map.mpr ⟨r, lexF_mem k len q, rfl⟩
theorem permsL_pack {b : Bs} {p : List Str} : p ∈ permsL b.things ↔ PackP b p := ⟨fun h => lexF_perm _ rfl h, fun h => lexF_mem _ rfl h⟩
theorem fct_le {n : Nat} (h : n ≤ 5) : fct n ≤ 120 := by
  match n, h with
  | 0, _ => decide
  | 1, _ => decide
  | 2, _ => decide
  | 3, _ => decide
  | 4, _ => decide
  | 5, _ => decide
  | _ + 6, h => omega
theorem permsL_few {b : Bs} (wf : WF b) : (permsL b.things).length ≤ 120 := by
  rw [permsL_len wf.t1 wf.t5]
  exact fct_le wf.t5
/-- the days of the clues dig just so much -/
def doesP (b : Bs) : List Str → List (Str × Int) → Bool
  | _, [] => true
  | p, c :: cs => match b.ws.find? (fun e => decide (e.name = c.1)) with
    | some e => decide ((digsP p e.wishes : Int) = c.2) && doesP b (behindP p e.wishes e.back) cs
    | none => false
theorem doesP_cons {b : Bs} (nd : b.names.Nodup) {e : Ent} (he : e ∈ b.ws) {p : List Str} {m : Int} {cs : List (Str × Int)} : doesP b p ((e.name, m) :: cs) = (decide ((digsP p e.wishes : Int) = m) && doesP b (behindP p e.wishes e.back) cs) := by
  conv => lhs; unfold doesP
  rw [find_ent nd he]
theorem tripLeft_cons {b : Bs} (nd : b.names.Nodup) {e : Ent} (he : e ∈ b.ws) {p : List Str} {row : List Str} : tripLeft b p (e.name :: row) = tripLeft b (behindP p e.wishes e.back) row := by
  conv => lhs; unfold tripLeft
  rw [find_ent nd he]
theorem doesP_snoc {b : Bs} (nd : b.names.Nodup) {e : Ent} (he : e ∈ b.ws) {m : Int} : ∀ {cs : List (Str × Int)} {p : List Str}, (∀ c ∈ cs, c.1 ∈ b.names) → doesP b p (cs ++ [(e.name, m)]) = (doesP b p cs && decide ((digsP (tripLeft b p (cs.map Prod.fst)) e.wishes : Int) = m))
  | [], p, _ => by
    rw [List.nil_append, doesP_cons nd he]
    show (_ && true) = (true && _)
    rw [Bool.and_true, Bool.true_and]
    rfl
  | c :: cs, p, h => by
    obtain ⟨f, hf, ef⟩ := List.mem_map.mp (h c List.mem_cons_self)
    obtain ⟨w, z⟩ := c
    have ef : f.name = w := ef
    subst ef
    rw [List.cons_append, doesP_cons nd hf, doesP_cons nd hf, doesP_snoc nd he fun d hd => h d (List.mem_cons_of_mem _ hd), List.map_cons, tripLeft_cons nd hf, Bool.and_assoc]
theorem tripLeft_snoc {b : Bs} (nd : b.names.Nodup) {e : Ent} (he : e ∈ b.ws) : ∀ {row p : List Str}, (∀ c ∈ row, c ∈ b.names) → tripLeft b p (row ++ [e.name]) = behindP (tripLeft b p row) e.wishes e.back
  | [], p, _ => by
    rw [List.nil_append, tripLeft_cons nd he]
    rfl
  | c :: row, p, h => by
    obtain ⟨f, hf, rfl⟩ := List.mem_map.mp (h c List.mem_cons_self)
    rw [List.cons_append, tripLeft_cons nd hf, tripLeft_cons nd hf, tripLeft_snoc nd he fun d hd => h d (List.mem_cons_of_mem _ hd)]
theorem left_pack' {b : Bs} (wf : WF b) : ∀ {row p : List Str}, PackP b p → PackP b (tripLeft b p row)
  | [], p, h => h
  | c :: row, p, h => by
    unfold tripLeft
    split
    · rename_i e q
      exact left_pack' wf (behind_pack wf h (List.mem_of_find?_eq_some q))
    · exact h
def fitP (b : Bs) (cs : List (Str × Int)) : List (List Str × List Str) := ((permsL b.things).filter fun p => doesP b p cs).map fun p => (p, tripLeft b p (cs.map Prod.fst))
theorem fitP_nil {b : Bs} : fitP b [] = (permsL b.things).map fun p => (p, p) := by
  unfold fitP
  have e : ((permsL b.things).filter fun p => doesP b p []) = permsL b.things := List.filter_eq_self.mpr fun _ _ => rfl
  rw [e]
  rfl
theorem fitP_snoc {b : Bs} (nd : b.names.Nodup) {e : Ent} (he : e ∈ b.ws) {m : Int} {cs : List (Str × Int)} (h : ∀ c ∈ cs, c.1 ∈ b.names) : fitP b (cs ++ [(e.name, m)]) = ((fitP b cs).filter fun q => decide ((digsP q.2 e.wishes : Int) = m)).map fun q => (q.1, behindP q.2 e.wishes e.back) := by
  unfold fitP
  have h2 : ∀ c ∈ cs.map Prod.fst, c ∈ b.names := fun c hc => by
    obtain ⟨d, hd, rfl⟩ := List.mem_map.mp hc
    exact h d hd
  rw [List.filter_map, List.map_map, List.filter_filter]
  have e1 : ((permsL b.things).filter fun p => doesP b p (cs ++ [(e.name, m)])) = (permsL b.things).filter fun a => ((fun q : List Str × List Str => decide ((digsP q.2 e.wishes : Int) = m)) ∘ fun p => (p, tripLeft b p (cs.map Prod.fst))) a && doesP b a cs := by
    congr 1
    funext p
    rw [doesP_snoc nd he h, Bool.and_comm]
    rfl
  rw [e1]
  refine List.map_congr_left fun p _ => ?_
  show (p, tripLeft b p ((cs ++ [(e.name, m)]).map Prod.fst)) = (p, behindP (tripLeft b p (cs.map Prod.fst)) e.wishes e.back)
  rw [List.map_append, List.map_cons, List.map_nil, tripLeft_snoc nd he h2]
def LivedOk (b : Bs) (lv : List ((Str × List Str) × (Int × List Str))) : Prop := ∀ w l z, getK lv (w, l) = some z → ∀ e ∈ b.ws, e.name = w → z = ((digsP l e.wishes : Int), behindP l e.wishes e.back)
theorem LivedOk.nil {b : Bs} : LivedOk b [] := fun w l z hz => by rw [getK_nil] at hz; cases hz
theorem LivedOk.put {b : Bs} (nd : b.names.Nodup) {lv : List ((Str × List Str) × (Int × List Str))} (h : LivedOk b lv) {e : Ent} (he : e ∈ b.ws) {l : List Str} : LivedOk b (lv ++ [((e.name, l), ((digsP l e.wishes : Int), behindP l e.wishes e.back))]) := by
  intro w l' z hz f hf ef
  rw [getK_app] at hz
  rcases q : getK lv (w, l') with _ | y
  · rw [q, Option.none_or] at hz
    split at hz
    · rename_i k
      cases hz
      injection k with k1 k2
      subst k2
      rw [ent_unique nd he hf (k1.trans ef.symm)]
    · cases hz
  · rw [q] at hz
    cases hz
    exact h w l' _ q f hf ef
theorem wComp_f {E α β : Type} {e : E} {k : List β → Prop} {xs : List α} {f : E × α → β} (h : k (xs.map fun x => f (e, x))) : wComp (fun (_ : E × α) (k : Bool → Prop) => k true) (fun q k => k (f q)) xs [] e k := by
  refine wComp_k (p := fun _ => true) ?_
  rw [List.filter_eq_self.mpr fun _ _ => rfl]
  exact h
theorem eqv_map {α : Type} [DecidableEq α] {d : α → PyData} (h : ∀ x y, PyData.eqv (d x) (d y) = decide (x = y)) : ∀ (xs ys : List α), PyData.eqvAll (xs.map d) (ys.map d) = decide (xs = ys)
  | [], [] => by simp [PyData.eqvAll]
  | [], _ :: _ => by simp [PyData.eqvAll]
  | _ :: _, [] => by simp [PyData.eqvAll]
  | x :: xs, y :: ys => by
    simp only [List.map_cons, PyData.eqvAll, h, eqv_map h xs ys]
    by_cases a : x = y <;> by_cases c : xs = ys <;> simp [a, c]
theorem eqv_ls (xs ys : List (List Str)) : PyData.eqv (.list (xs.map fun x => .list (x.map .str))) (.list (ys.map fun x => .list (x.map .str))) = decide (xs = ys) := by
  unfold PyData.eqv
  exact eqv_map (d := fun x : List Str => .list (x.map .str)) (fun x y => eqv_l) xs ys
theorem eqv_si (x y : Str × Int) : PyData.eqv (.tuple [.str x.1, .int x.2]) (.tuple [.str y.1, .int y.2]) = decide (x = y) := by
  obtain ⟨a, i⟩ := x
  obtain ⟨c, j⟩ := y
  by_cases h : a = c <;> by_cases k : i = j <;> simp [PyData.eqv, PyData.eqvAll, h, k]
theorem eqv_lsi (xs ys : List (Str × Int)) : PyData.eqv (.list (xs.map fun x => .tuple [.str x.1, .int x.2])) (.list (ys.map fun x => .tuple [.str x.1, .int x.2])) = decide (xs = ys) := by
  unfold PyData.eqv
  exact eqv_map (d := fun x : Str × Int => .tuple [.str x.1, .int x.2]) eqv_si xs ys
end Px

/-! comprehensions with conditions; clues a few of them; places told -/
namespace Px
open PySem PySem.Spec PyProof.Rows L2 Gx Tx Pm
theorem wComp_flt {E α β : Type} {c : E × α → (Bool → Prop) → Prop} {f : E × α → (β → Prop) → Prop} {e : E} {k : List β → Prop} (p : α → Bool) (g : α → β) : ∀ {xs : List α} {acc : List β}, (∀ x ∈ xs, ∀ k : Bool → Prop, k (p x) → c (e, x) k) → (∀ x ∈ xs, ∀ k : β → Prop, k (g x) → f (e, x) k) → k (acc ++ (xs.filter p).map g) → wComp c f xs acc e k
  | [], acc, _, _, h => by
    show k acc
    rwa [List.filter_nil, List.map_nil, List.append_nil] at h
  | x :: xs, acc, hc, hf, h => by
    refine hc x List.mem_cons_self _ ?_
    by_cases q : p x = true
    · rw [if_pos q]
      refine hf x List.mem_cons_self _ ?_
      refine wComp_flt p g (fun y hy => hc y (List.mem_cons_of_mem _ hy)) (fun y hy => hf y (List.mem_cons_of_mem _ hy)) ?_
      rw [List.filter_cons_of_pos q, List.map_cons] at h
      rwa [List.append_assoc]
    · rw [if_neg q]
      refine wComp_flt p g (fun y hy => hc y (List.mem_cons_of_mem _ hy)) (fun y hy => hf y (List.mem_cons_of_mem _ hy)) ?_
      rwa [List.filter_cons_of_neg q] at h
theorem flat_le {α β : Type} {F : α → List β} {m : Nat} : ∀ {l : List α}, (∀ d ∈ l, (F d).length ≤ m) → (l.flatMap F).length ≤ m * l.length
  | [], _ => by simp
  | d :: l, h => by
    rw [List.flatMap_cons, List.length_append, List.length_cons, Nat.mul_succ]
    have := flat_le (l := l) fun x hx => h x (List.mem_cons_of_mem _ hx)
    have := h d List.mem_cons_self
    omega
/-- what is taken off a list's rest -/
theorem drop_step {α : Type} {L rest : List α} {x : α} {d : Nat} (h : x :: rest = L.drop d) : L[d]? = some x ∧ rest = L.drop (d + 1) := by
  have lt : d < L.length := by
    rcases Nat.lt_or_ge d L.length with c | c
    · exact c
    · rw [List.drop_eq_nil_of_le c] at h
      cases h
  rw [List.drop_eq_getElem_cons lt] at h
  injection h with h1 h2
  exact ⟨by rw [List.getElem?_eq_getElem lt, h1], h2⟩
theorem drop_end {α : Type} {L : List α} {d : Nat} (h : [] = L.drop d) : L.length ≤ d := List.drop_eq_nil_iff.mp h.symm
theorem rangeL_at {n x : Int} {d : Nat} (h : (rangeL n)[d]? = some x) : x = (d : Int) ∧ (d : Int) < n := by
  unfold rangeL at h
  rw [List.getElem?_map] at h
  rcases Nat.lt_or_ge d n.toNat with c | c
  · rw [List.getElem?_range c] at h
    cases h
    exact ⟨rfl, by omega⟩
  · rw [List.getElem?_eq_none (by rw [List.length_range]; exact c)] at h
    cases h
theorem rangeL_len {n : Int} : (rangeL n).length = n.toNat := by simp [rangeL]
theorem doesP_take {b : Bs} : ∀ {cs : List (Str × Int)} {p : List Str} {j : Nat}, doesP b p cs = true → doesP b p (cs.take j) = true
  | [], p, j, h => by simp [doesP]
  | c :: cs, p, 0, h => rfl
  | c :: cs, p, j + 1, h => by
    rw [List.take_succ_cons]
    unfold doesP at h ⊢
    split at h
    · rw [Bool.and_eq_true] at h ⊢
      exact ⟨h.1, doesP_take h.2⟩
    · cases h
theorem fewer_fit {b : Bs} {ps : List (List Str)} {cs : List (Str × Int)} {a : Nat} : (ps.filter fun p => doesP b p (cs.take a)).length ≤ (ps.filter fun p => doesP b p (cs.take (a - 1))).length := by
  rw [← List.countP_eq_length_filter, ← List.countP_eq_length_filter]
  refine List.countP_mono_left fun p _ h => ?_
  have := doesP_take (j := a - 1) h
  rwa [List.take_take, Nat.min_eq_left (Nat.sub_le a 1)] at this
theorem idx_spot {r : List Str} (nd : r.Nodup) {t : Str} (ht : t ∈ r) {j : Nat} : r[j]? = some t ↔ idxS r t = j := by
  constructor
  · intro h
    have a := idxS_at ht
    have l1 := idxS_lt ht
    rcases Nat.lt_or_ge j r.length with c | c
    · rw [List.getElem?_eq_getElem c] at h
      rw [List.getElem?_eq_getElem l1] at a
      exact (List.getElem_inj nd).mp ((Option.some.inj a).trans (Option.some.inj h).symm)
    · rw [List.getElem?_eq_none c] at h
      cases h
  · intro h
    rw [← h]
    exact idxS_at ht
/-- least and greatest spots -/
theorem spots_same {t : Str} {first : List Str} {rest : List (List Str)} (nd : ∀ r ∈ first :: rest, r.Nodup) (ht : ∀ r ∈ first :: rest, t ∈ r) {m m1 : Int} (h1 : m ∈ (first :: rest).map fun r => (idxS r t : Int)) (h2 : ∀ y ∈ (first :: rest).map fun r => (idxS r t : Int), m ≤ y) (h3 : m1 ∈ (first :: rest).map fun r => (idxS r t : Int)) (h4 : ∀ y ∈ (first :: rest).map fun r => (idxS r t : Int), y ≤ m1) :
    ((first :: rest).all fun r => decide (r[((idxS first t : Nat) : Int).toNat]? = some t)) = decide (m = m1) := by
  rw [Int.toNat_natCast]
  have f : (idxS first t : Int) ∈ (first :: rest).map fun r => (idxS r t : Int) := List.mem_map.mpr ⟨first, List.mem_cons_self, rfl⟩
  by_cases c : m = m1
  · rw [decide_eq_true c, List.all_eq_true]
    intro r hr
    refine decide_eq_true ((idx_spot (nd r hr) (ht r hr)).mpr ?_)
    have g : (idxS r t : Int) ∈ (first :: rest).map fun r => (idxS r t : Int) := List.mem_map.mpr ⟨r, hr, rfl⟩
    have a1 := h2 _ f
    have a2 := h4 _ f
    have a3 := h2 _ g
    have a4 := h4 _ g
    omega
  · rw [decide_eq_false c, Bool.eq_false_iff]
    intro h
    rw [List.all_eq_true] at h
    obtain ⟨r, hr, e⟩ := List.mem_map.mp h1
    obtain ⟨r', hr', e'⟩ := List.mem_map.mp h3
    have g := (idx_spot (nd r hr) (ht r hr)).mp (of_decide_eq_true (h r hr))
    have g' := (idx_spot (nd r' hr') (ht r' hr')).mp (of_decide_eq_true (h r' hr'))
    refine c ?_
    rw [← e, ← e', g, g']
end Px

namespace K20
open PySem PySem.Spec PyProof.Rows L2 Gx Tx Px Pm
theorem r_all_packings {b : Bs} (wf : WF b) {k : List (List Str) → Prop} (h : k (permsL b.things)) : w_all_packings (b, ()) k := by
  unfold w_all_packings wT d_all_packings
  refine up_of fun k' hm => ?_
  dsimp only
  have := permsL_few wf
  refine ⟨⟨wf.t1, wf.t5⟩, le_line (by omega), wComp_f ?_⟩
  show k' ((permsL b.things).map fun x => x)
  rw [List.map_id']
  exact hm _ h
theorem lexF_len5 {n : Nat} {xs : List Str} (e : xs.length = n) (h : n ≤ 5) : (lexF n xs).length ≤ 120 := by
  rcases Nat.eq_zero_or_pos n with z | z
  · subst z
    show (1 : Nat) ≤ 120
    decide
  · have := permsL_len (xs := xs) (by omega) (by omega)
    unfold permsL at this
    rw [e] at this
    rw [this]
    exact fct_le h
theorem r_packs : ∀ (n : Nat) {xs : List Str} {k : List (List Str) → Prop}, xs.length < n → xs.length ≤ 5 → k (permsL xs) → (wpk n).1 (xs, ()) k
  | 0, xs, k, h, _, _ => absurd h (by omega)
  | n + 1, xs, k, h, h5, hk => by
    show wT ({} : Loc_law_packings) (d_law_packings (wpk n).1 (wpk n).2 n).1 (xs, ()) k
    unfold wT d_law_packings
    refine up_of fun k' hm => ?_
    dsimp only
    unfold permsL at hk
    by_cases c : xs.length = 0
    · rw [if_pos (decide_eq_true (by omega))]
      rw [c] at hk
      exact hm _ hk
    rw [if_neg (by simp only [decide_eq_true_eq]; omega)]
    obtain ⟨m, em⟩ : ∃ m, xs.length = m + 1 := ⟨xs.length - 1, by omega⟩
    let F : Nat → List (List Str) := fun d => match xs[d]? with
      | some x => (lexF m (xs.eraseIdx d)).map fun r => x :: r
      | none => []
    have eF : lexF xs.length xs = (List.range xs.length).flatMap F := by
      conv => lhs; rw [em]
      conv => lhs; unfold lexF
      refine congrArg (fun z => List.flatMap z (List.range xs.length)) (funext fun d => ?_)
      show _ = (match xs[d]? with
        | some x => (lexF m (xs.eraseIdx d)).map fun r => x :: r
        | none => [])
      cases xs[d]? <;> rfl
    have lenE : ∀ d, d < xs.length → (xs.eraseIdx d).length = m := fun d hd => by
      rw [List.length_eraseIdx_of_lt hd]
      omega
    have lF : ∀ d, (F d).length ≤ 120 := fun d => by
      show List.length (match xs[d]? with
        | some x => (lexF m (xs.eraseIdx d)).map fun r => x :: r
        | none => []) ≤ 120
      rcases Nat.lt_or_ge d xs.length with lt | ge
      · rw [List.getElem?_eq_getElem lt]
        dsimp only
        rw [List.length_map]
        exact lexF_len5 (lenE d lt) (by omega)
      · rw [List.getElem?_eq_none ge]
        exact Nat.zero_le _
    refine wFor_rem (fun rest e => e.1 = (xs, ()) ∧ ∃ d : Nat, rest = (xs.zipIdx.map fun q => ((q.2 : Int), q.1)).drop d ∧ d ≤ xs.length ∧ e.2.found = (List.range d).flatMap F) (fun x rest e kn ⟨e1, d, e2, e3, e4⟩ hn hr => ?_) (fun e ⟨e1, d, e2, e3, e4⟩ => ?_) ⟨rfl, 0, rfl, Nat.zero_le _, rfl⟩
    rotate_left
    · have := drop_end e2
      rw [List.length_map, List.length_zipIdx] at this
      have ed : d = xs.length := by omega
      rw [ed, ← eF] at e4
      show k' e.2.found
      rw [e4]
      exact hm _ hk
    obtain ⟨ea, eb⟩ := drop_step e2
    have lt : d < xs.length := by
      rcases Nat.lt_or_ge d xs.length with lt | ge
      · exact lt
      · rw [List.getElem?_eq_none (by rw [List.length_map, List.length_zipIdx]; exact ge)] at ea
        cases ea
    rw [List.getElem?_eq_getElem (by rw [List.length_map, List.length_zipIdx]; exact lt), List.getElem_map, List.getElem_zipIdx] at ea
    have ex : x = ((d : Int), xs[d]) := by
      rw [← Option.some.inj ea, Nat.zero_add]
    subst ex
    obtain ⟨⟨xs', u⟩, loc⟩ := e
    cases e1
    have c1 : cutL xs none (some (d : Int)) = xs.take d := cut_hi (by omega)
    have c2 : cutL xs (some ((d : Int) + 1)) none = xs.drop (d + 1) := by
      rw [show (d : Int) + 1 = ((d + 1 : Nat) : Int) from by omega]
      exact cut_lo (by omega)
    dsimp only
    rw [c1, c2, ← List.eraseIdx_eq_take_drop_succ]
    have l120 : (lexF m (xs.eraseIdx d)).length ≤ 120 := lexF_len5 (lenE d lt) (by omega)
    have e4 : loc.found = (List.range d).flatMap F := e4
    have fl : loc.found.length ≤ 120 * d := by
      rw [e4]
      have := flat_le (F := F) (m := 120) (l := List.range d) fun x _ => lF x
      rwa [List.length_range] at this
    have Fd : F d = (lexF m (xs.eraseIdx d)).map fun r => xs[d] :: r := by
      show (match xs[d]? with
        | some x => (lexF m (xs.eraseIdx d)).map fun r => x :: r
        | none => []) = _
      rw [List.getElem?_eq_getElem lt]
    refine ⟨le_line (by rw [List.length_take, List.length_drop]; omega), r_packs n (by rw [lenE d lt]; omega) (by rw [lenE d lt]; omega) ?_⟩
    unfold permsL
    rw [lenE d lt]
    refine ⟨le_line (by omega), ?_⟩
    refine wComp_rel (fun r (y : List Str) => y = xs[d] :: r) (fun r hr kn hn => ⟨le_line ?_, hn _ rfl⟩) (fun ys py => ?_)
    · have := (lexF_perm m (lenE d lt) hr).length_eq
      rw [lenE d lt] at this
      show 1 + r.length ≤ 1000
      omega
    · have ey := Paired.map_of py
      subst ey
      rw [List.nil_append]
      refine ⟨le_line (by rw [List.length_map]; show loc.found.length + _ ≤ 1000; omega), hn _ ⟨rfl, d + 1, eb, lt, ?_⟩⟩
      show loc.found ++ _ = _
      rw [e4, List.range_succ, List.flatMap_append, List.flatMap_singleton, Fd]
theorem r_most_of_each {b : Bs} (wf : WF b) {ps : List (List Str)} (ne : ps ≠ []) (few : ps.length ≤ 120) (nd : ps.Nodup) (pk : ∀ p ∈ ps, PackP b p) {days : Int} (h0 : 0 ≤ days) (h1 : days ≤ 1000) {k : List Int → Prop} (hk : ∀ ys, Paired (fun p v => MaxP b p 1 days.toNat v) ps ys → k ys) : w_most_of_each (b, ps, days, ()) k := by
  unfold w_most_of_each wT d_most_of_each
  refine up_of fun k' hm => ?_
  dsimp only
  refine ⟨le_line (by omega), wComp_f ?_⟩
  have nds : (ps.map fun p => [p]).Nodup := by
    refine List.pairwise_map.mpr (nd.imp fun h z => h ?_)
    injection z
  refine r_ways _ _ ⟨wf, by simpa using ne, by rw [List.length_map]; show ps.length ≤ 1000; omega, nds, fun s hs => ?_, fun ways M wo => r_best_gains wf wo (.inl rfl) h0 h1 fun rows rl hr => ?_⟩
  · obtain ⟨p, hp, rfl⟩ := List.mem_map.mp hs
    refine ⟨by simp, by simp, fun q hq => ?_⟩
    rw [List.mem_singleton.mp hq]
    exact pk p hp
  · have lt : days.toNat < rows.length := by omega
    have row := hr days.toNat _ (List.getElem?_eq_getElem lt)
    refine ⟨rows[days.toNat], ?_, hm _ (hk _ ?_)⟩
    · unfold L2.atI L2.ixN
      rw [if_neg (by omega), if_pos (by omega)]
      show rows[(-1 + (rows.length : Int)).toNat]? = _
      rw [show (-1 + (rows.length : Int)).toNat = days.toNat by omega]
      exact List.getElem?_eq_getElem lt
    · have ml : ps.length ≤ M.length := by
        have lp : 0 < ps.length := List.length_pos_iff.mpr ne
        have := wo.first (ps.length - 1) (by rw [List.length_map]; omega)
        obtain ⟨h, _⟩ := List.getElem?_eq_some_iff.mp this
        omega
      rw [cut_hi (by rw [row.1]; exact ml)]
      have all : ∀ (qs : List (List Str)) (r : List Int), (∀ i (h : i < qs.length), ∃ v, r[i]? = some v ∧ MaxP b qs[i] 1 days.toNat v) → Paired (fun p v => MaxP b p 1 days.toNat v) qs (r.take qs.length) := by
        intro qs
        induction qs with
        | nil => intro r _; exact .nil
        | cons q qs ih =>
          intro r h
          obtain ⟨v, e, mx⟩ := h 0 (by simp)
          cases r with
          | nil => cases e
          | cons y r =>
            cases e
            refine .cons mx (ih r fun i hi => ?_)
            obtain ⟨v, e, mx⟩ := h (i + 1) (by simpa using hi)
            exact ⟨v, e, mx⟩
      refine all ps _ fun i hi => ?_
      have h0 : M[i]? = some ([ps[i]], firstP b) := by
        have := wo.first i (by rw [List.length_map]; exact hi)
        rwa [List.getElem_map] at this
      obtain ⟨v, hv, up, t, ht, tp, et⟩ := row.2 i _ h0
      refine ⟨v, hv, fun t ht tp => ?_, t, ht, tp, ?_⟩
      · rw [← gainTrip_one wf.wd tp]
        exact up t ht tp
      · rw [← gainTrip_one wf.wd tp]
        exact et
theorem perms_ne {b : Bs} : permsL b.things ≠ [] := fun z => by
  have : b.things ∈ permsL b.things := permsL_pack.mpr (List.Perm.refl _)
  rw [z] at this
  cases this
theorem r_least_most {b : Bs} (wf : WF b) (pd : (permsL b.things).Nodup) {days : Int} (h0 : 0 ≤ days) (h1 : days ≤ 1000) {k : Int → Prop} (hk : ∀ ys m, Paired (fun p v => MaxP b p 1 days.toNat v) (permsL b.things) ys → m ∈ ys → (∀ y ∈ ys, m ≤ y) → k m) : w_least_most (b, days, ()) k := by
  unfold w_least_most wT d_least_most
  refine up_of fun k' hm => ?_
  dsimp only
  refine r_all_packings wf (r_most_of_each wf perms_ne (permsL_few wf) pd (fun p hp => permsL_pack.mp hp) h0 h1 fun ys py => ⟨?_, fun m h2 h3 => hm _ (hk ys m py h2 h3)⟩)
  rw [← Paired.length py]
  exact List.length_pos_iff.mpr perms_ne
theorem r_best_packings {b : Bs} (wf : WF b) (pd : (permsL b.things).Nodup) {days : Int} (h0 : 0 ≤ days) (h1 : days ≤ 1000) {k : List (List Str) → Prop} (hk : ∀ ys m, Paired (fun p v => MaxP b p 1 days.toNat v) (permsL b.things) ys → m ∈ ys → (∀ y ∈ ys, m ≤ y) → k (((permsL b.things).zip ys).filter (fun q => decide (q.2 = m)) |>.map Prod.fst)) : w_best_packings (b, days, ()) k := by
  unfold w_best_packings wT d_best_packings
  refine up_of fun k' hm => ?_
  dsimp only
  refine r_all_packings wf (r_most_of_each wf perms_ne (permsL_few wf) pd (fun p hp => permsL_pack.mp hp) h0 h1 fun ys py => ⟨?_, fun m h2 h3 => ⟨le_line ?_, ?_⟩⟩)
  · rw [← Paired.length py]
    exact List.length_pos_iff.mpr perms_ne
  · have := permsL_few wf
    rw [List.length_zip]
    omega
  · refine wComp_flt (fun q : List Str × Int => decide (q.2 = m)) Prod.fst (fun q _ kn hn => hn) (fun q _ kn hn => hn) ?_
    rw [List.nil_append]
    exact hm _ (hk ys m py h2 h3)
theorem r_law_entry {b : Bs} {e : Ent} {k : Ent → Prop} (wf : WF b) (he : e ∈ b.ws) (hk : k e) : w_law_entry (b, e.name, ()) k := by
  unfold w_law_entry wT d_law_entry
  refine up_of fun k' hm => ?_
  dsimp only
  have w4 := wf.w4
  refine ⟨le_line (by show b.ws.length ≤ 1000; omega), wComp_k ?_⟩
  have f : (b.ws.filter fun f => decide (f.name = e.name)) = [e] := by
    have h := find_ent wf.wd he
    have : ∀ {ws : List Ent}, (ws.map Ent.name).Nodup → e ∈ ws → (ws.filter fun f => decide (f.name = e.name)) = [e] := by
      intro ws
      induction ws with
      | nil => intro _ h; cases h
      | cons g ws ih =>
        intro nd h
        have nd' := nd
        rw [List.map_cons, List.nodup_cons] at nd
        by_cases c : g.name = e.name
        · have : g = e := ent_unique nd' List.mem_cons_self h c
          subst this
          rw [List.filter_cons_of_pos (by simp)]
          congr 1
          refine List.filter_eq_nil_iff.mpr fun z hz q => nd.1 ?_
          rw [← of_decide_eq_true q]
          exact List.mem_map.mpr ⟨z, hz, rfl⟩
        · rw [List.filter_cons_of_neg (by simpa using c)]
          rcases List.mem_cons.mp h with rfl | h
          · exact absurd rfl c
          · exact ih nd.2 h
    exact this wf.wd he
  rw [List.map_id']
  show ∃ x, L2.atI (b.ws.filter fun f => decide (f.name = e.name)) 0 = some x ∧ k' x
  rw [f]
  exact ⟨e, rfl, hm _ hk⟩
theorem idx_flt {worn : List Str} {t : Str} (nt : t ∉ worn) : ∀ {xs : List Str}, t ∈ xs → idxS (xs.filter fun z => !decide (z ∈ worn)) t = ((xs.take (idxS xs t)).filter fun z => !decide (z ∈ worn)).length
  | x :: xs, h => by
    by_cases c : x = t
    · subst c
      rw [List.filter_cons_of_pos (by simpa using nt), idxS_cons_self, idxS_cons_self]
      rfl
    · have h' : t ∈ xs := by
        rcases List.mem_cons.mp h with z | z
        · exact absurd z.symm c
        · exact z
      rw [idxS_cons_ne c, List.take_succ_cons]
      by_cases d : x ∈ worn
      · rw [List.filter_cons_of_neg (by simpa using d), List.filter_cons_of_neg (by simpa using d)]
        exact idx_flt nt h'
      · rw [List.filter_cons_of_pos (by simpa using d), List.filter_cons_of_pos (by simpa using d), idxS_cons_ne c, idx_flt nt h', List.length_cons]
theorem r_law_day {b : Bs} (wf : WF b) {xs : List Str} (pp : PackP b xs) {en : Ent} (he : en ∈ b.ws) {k : Int × List Str → Prop} (hk : k ((digsP xs en.wishes : Int), behindP xs en.wishes en.back)) : w_law_day (b, xs, en.name, ()) k := by
  unfold w_law_day wT d_law_day
  refine up_of fun k' hm => ?_
  dsimp only
  have we := wf.we en he
  have xl : xs.length ≤ 5 := by rw [pp.len]; exact wf.t5
  have wl := wish_len wf he
  refine r_law_entry wf he ?_
  refine wFor_rem (fun rest e => e.1 = (b, xs, en.name, ()) ∧ e.2.back = en.back ∧ en.wishes = e.2.worn ++ rest ∧ e.2.found + (digsP (xs.filter fun z => !decide (z ∈ e.2.worn)) rest : Int) = (digsP xs en.wishes : Int)) (fun t rest e kn ⟨i1, i2, i3, i4⟩ hn _ => ?st) (fun e ⟨i1, i2, i3, i4⟩ => ?dn) ⟨rfl, rfl, rfl, ?i1⟩
  case st =>
    obtain ⟨⟨b', xs', nm, u⟩, loc⟩ := e
    cases i1
    have i3 : en.wishes = loc.worn ++ t :: rest := i3
    have tin : t ∈ xs := pp.mem_iff.mpr (we.w t (by rw [i3]; simp))
    have nt : t ∉ loc.worn := fun z => by
      have := we.wd
      rw [i3, List.nodup_append] at this
      exact this.2.2 t z t List.mem_cons_self rfl
    have il := idxS_lt tin
    have wl2 := congrArg List.length i3
    rw [List.length_append] at wl2
    refine ⟨tin, le_line ?_, ?_⟩
    · dsimp only
      rw [cut_hi (by omega), List.length_take]
      omega
    · dsimp only
      rw [cut_hi (by omega)]
      refine wComp_flt (fun z => !decide (z ∈ loc.worn)) id (fun q _ kn hn => hn) (fun q _ kn hn => hn) ?_
      rw [List.nil_append, List.map_id]
      refine ⟨le_line'' (by omega), hn _ ⟨rfl, i2, by rw [i3]; simp, ?_⟩⟩
      have i4 : loc.found + (digsP (xs.filter fun z => !decide (z ∈ loc.worn)) (t :: rest) : Int) = (digsP xs en.wishes : Int) := i4
      show loc.found + (((xs.take (idxS xs t)).filter fun z => !decide (z ∈ loc.worn)).length : Int) + (digsP (xs.filter fun z => !decide (z ∈ loc.worn ++ [t])) rest : Int) = _
      rw [← i4, ← idx_flt nt tin]
      have ef : ((xs.filter fun z => !decide (z ∈ loc.worn)).filter fun z => !decide (z = t)) = xs.filter fun z => !decide (z ∈ loc.worn ++ [t]) := by
        rw [List.filter_filter]
        congr 1
        funext z
        by_cases a1 : z = t <;> by_cases a2 : z ∈ loc.worn <;> simp [a1, a2]
      show _ = loc.found + ((idxS (xs.filter fun z => !decide (z ∈ loc.worn)) t + digsP ((xs.filter fun z => !decide (z ∈ loc.worn)).filter fun z => !decide (z = t)) rest : Nat) : Int)
      rw [ef]
      omega
  case dn =>
    obtain ⟨⟨b', xs', nm, u⟩, loc⟩ := e
    cases i1
    have i2 : loc.back = en.back := i2
    have i3 : en.wishes = loc.worn := by rw [List.append_nil] at i3; exact i3
    have i4 : loc.found + ((0 : Nat) : Int) = (digsP xs en.wishes : Int) := i4
    have ef : loc.found = (digsP xs en.wishes : Int) := by omega
    dsimp only
    rw [i2, ef]
    have q := hm _ hk
    unfold behindP at q
    by_cases c : en.back = "place"
    · rw [if_pos (decide_eq_true c)]
      rw [if_pos c] at q
      exact q
    · rw [if_neg (by simpa using c)]
      rw [if_neg c] at q
      refine ⟨le_line (by omega), ?_⟩
      refine wComp_flt (fun z => !decide (z ∈ loc.worn)) id (fun q _ kn hn => hn) (fun q _ kn hn => hn) ?_
      rw [List.nil_append, List.map_id, ← i3]
      refine ⟨le_line ?_, q⟩
      have := List.length_filter_le (fun z => !decide (z ∈ en.wishes)) xs
      rw [List.length_reverse]
      omega
  case i1 =>
    show (0 : Int) + (digsP (xs.filter fun z => !decide (z ∈ ([] : List Str))) en.wishes : Int) = _
    rw [List.filter_eq_self.mpr (by simp)]
    omega
end K20

/-! the table of what was dug, by what lies and what weather can be next -/
namespace Px
open PySem PySem.Spec PyProof.Rows L2 Gx Tx Pm
section
variable {κ β : Type} [DecidableEq κ]
theorem getK_mapset {k k' : κ} {v : β} : ∀ {xs : List (κ × β)}, getK (xs.map fun p => if p.1 = k then (p.1, v) else p) k' = if k' = k then (if (getK xs k).isSome then some v else none) else getK xs k'
  | [] => by
    rw [List.map_nil, getK_nil, getK_nil]
    split <;> rfl
  | p :: xs => by
    rw [List.map_cons, getK_cons, getK_cons, getK_cons, getK_mapset]
    by_cases a : p.1 = k
    · rw [if_pos a]
      dsimp only
      by_cases c : k' = k
      · subst c
        rw [if_pos a, if_pos rfl, if_pos a]
        rfl
      · rw [if_neg (fun z => c (z.symm.trans a)), if_neg c, if_neg c, if_neg (fun z => c (z.symm.trans a))]
    · rw [if_neg a, if_neg a]
      by_cases c : k' = k
      · subst c
        rw [if_neg a, if_pos rfl, if_pos rfl]
      · rw [if_neg c, if_neg c]
theorem getK_set {xs : List (κ × β)} {k k' : κ} {v : β} : getK (setK xs k v) k' = if k' = k then some v else getK xs k' := by
  unfold setK
  by_cases c : (getK xs k).isSome = true
  · rw [if_pos c, getK_mapset, if_pos c]
  · rw [if_neg c, getK_app]
    have n : getK xs k = none := by
      rcases q : getK xs k with _ | z
      · rfl
      · rw [q] at c
        exact absurd rfl c
    by_cases d : k' = k
    · subst d
      rw [if_pos rfl, if_pos rfl, n]
      rfl
    · rw [if_neg d, if_neg (fun z => d z.symm), Option.or_none]
theorem getK_key {xs : List (κ × β)} {k : κ} : (getK xs k).isSome = true ↔ k ∈ xs.map Prod.fst := by
  induction xs with
  | nil => simp [getK_nil]
  | cons p xs ih =>
    rw [getK_cons, List.map_cons, List.mem_cons]
    by_cases c : p.1 = k
    · rw [if_pos c]
      simp [c]
    · rw [if_neg c, ih]
      constructor
      · exact .inr
      · rintro (z | z)
        · exact absurd z.symm c
        · exact z
theorem keys_set {xs : List (κ × β)} {k : κ} {v : β} (nd : (xs.map Prod.fst).Nodup) : ((setK xs k v).map Prod.fst).Nodup := by
  unfold setK
  by_cases c : (getK xs k).isSome = true
  · rw [if_pos c, List.map_map]
    have e : (Prod.fst ∘ fun p : κ × β => if p.1 = k then (p.1, v) else p) = Prod.fst := by
      funext p
      show (if p.1 = k then (p.1, v) else p).1 = p.1
      split <;> rfl
    rw [e]
    exact nd
  · rw [if_neg c, List.map_append, List.nodup_append]
    refine ⟨nd, by simp, fun a ha b hb z => c ?_⟩
    rw [List.map_cons, List.map_nil, List.mem_singleton] at hb
    have hb : b = k := hb
    rw [getK_key, ← hb, ← z]
    exact ha
end
/-- the rows of so many days ahead of a weather -/
def RowTo (b : Bs) (p : List Str) (n : Nat) (q : List Str) (x : Str) (row : List Str) : Prop := row.length = n ∧ TripP b (firstP b) (row ++ [x]) ∧ tripLeft b p row = q
structure TabOk (b : Bs) (p : List Str) (n : Nat) (T : List ((List Str × Str) × Int)) : Prop where
  snd : ∀ q x v, getK T (q, x) = some v → ∃ row, RowTo b p n q x row ∧ tripDigs b p row = v
  top : ∀ q x row, RowTo b p n q x row → ∃ v, getK T (q, x) = some v ∧ tripDigs b p row ≤ v
  nd : (T.map Prod.fst).Nodup
theorem TabOk.zero {b : Bs} {p : List Str} {f : Str} (hf : firstP b = [f]) (fn : f ∈ b.names) : TabOk b p 0 [((p, f), 0)] := by
  refine ⟨fun q x v h => ?_, fun q x row h => ?_, by simp⟩
  · rw [getK_cons, getK_nil] at h
    split at h
    · rename_i c
      cases h
      cases c
      obtain ⟨e, he, rfl⟩ := List.mem_map.mp fn
      exact ⟨[], ⟨rfl, ⟨by rw [hf]; exact List.mem_singleton.mpr rfl, e, he, rfl, trivial⟩, rfl⟩, rfl⟩
    · cases h
  · obtain ⟨h1, h2, h3⟩ := h
    have e : row = [] := List.length_eq_zero_iff.mp h1
    subst e
    have h3 : p = q := h3
    subst h3
    obtain ⟨hx, _⟩ := h2
    rw [hf, List.mem_singleton] at hx
    subst hx
    exact ⟨0, by rw [getK_cons, if_pos rfl], Int.le_refl _⟩
theorem RowTo.keys {b : Bs} (wf : WF b) {p q row : List Str} {x : Str} {n : Nat} (pp : PackP b p) (h : RowTo b p n q x row) : PackP b q ∧ x ∈ b.names := ⟨by rw [← h.2.2]; exact left_pack' wf pp, h.2.1.names x (by simp)⟩
theorem TabOk.few {b : Bs} (wf : WF b) {p : List Str} (pp : PackP b p) {n : Nat} {T : List ((List Str × Str) × Int)} (h : ∀ q x v, getK T (q, x) = some v → PackP b q ∧ x ∈ b.names) (nd : (T.map Prod.fst).Nodup) : T.length ≤ 480 := by
  have sub : ∀ k ∈ T.map Prod.fst, k ∈ (permsL b.things).flatMap fun q => b.names.map fun x => (q, x) := fun k hk => by
    obtain ⟨q, x⟩ := k
    have := getK_key.mpr hk
    obtain ⟨v, hv⟩ := Option.isSome_iff_exists.mp this
    obtain ⟨h1, h2⟩ := h q x v hv
    exact List.mem_flatMap.mpr ⟨q, permsL_pack.mpr h1, List.mem_map.mpr ⟨x, h2, rfl⟩⟩
  have l1 := nodup_len nd sub
  have l2 := flat_le (F := fun q : List Str => b.names.map fun x => (q, x)) (m := 4) (l := permsL b.things) fun q _ => by
    rw [List.length_map]
    unfold Bs.names
    rw [List.length_map]
    exact wf.w4
  have l3 := permsL_few wf
  rw [List.length_map] at l1
  omega
/-- a row goes on by a day -/
theorem RowTo.next {b : Bs} (wf : WF b) {p q row : List Str} {n : Nat} {e : Ent} (he : e ∈ b.ws) {x : Str} (hx : x ∈ e.later) (h : RowTo b p n q e.name row) : RowTo b p (n + 1) (behindP q e.wishes e.back) x (row ++ [e.name]) ∧ tripDigs b p (row ++ [e.name]) = tripDigs b p row + (digsP q e.wishes : Int) := by
  obtain ⟨h1, h2, h3⟩ := h
  have nm : ∀ c ∈ row, c ∈ b.names := fun c hc => h2.names c (by simp [hc])
  obtain ⟨f, hf, rfl⟩ := List.mem_map.mp ((wf.we e he).l x hx)
  refine ⟨⟨by rw [List.length_append, h1]; rfl, TripP.snoc wf h2 hf rfl (fun z => by simp at z) (fun g hg z => ?_), ?_⟩, ?_⟩
  · rw [List.getLast?_append] at z
    simp at z
    have : e = g := ent_unique wf.wd he hg z
    rw [← this]
    exact hx
  · rw [tripLeft_snoc wf.wd he nm, h3]
  · obtain ⟨d1, _⟩ := digs_app wf.wd (p := p) h2
    rw [d1, h3]
    congr 1
    unfold tripDigs
    rw [find_ent wf.wd he]
    show (digsP q e.wishes : Int) + tripDigs b _ [] = _
    show (digsP q e.wishes : Int) + 0 = _
    omega
/-- .. and each longer one is such a one -/
theorem RowTo.split {b : Bs} (wf : WF b) {p q row : List Str} {n : Nat} {x : Str} (h : RowTo b p (n + 1) q x row) : ∃ q0 e r0, e ∈ b.ws ∧ RowTo b p n q0 e.name r0 ∧ x ∈ e.later ∧ q = behindP q0 e.wishes e.back ∧ row = r0 ++ [e.name] := by
  obtain ⟨h1, h2, h3⟩ := h
  have ne : row ≠ [] := fun z => by rw [z] at h1; cases h1
  have er := List.dropLast_concat_getLast ne
  have wn : row.getLast ne ∈ b.names := h2.names _ (List.mem_append_left _ (List.getLast_mem ne))
  obtain ⟨e, he, hn⟩ := List.mem_map.mp wn
  have er2 : row = row.dropLast ++ [e.name] := by rw [hn]; exact er.symm
  generalize row.dropLast = r0 at er2
  subst er2
  have h2' := h2.take (r0.length + 1)
  rw [List.append_assoc, List.take_append] at h2'
  have nm : ∀ c ∈ r0, c ∈ b.names := fun c hc => h2.names c (by simp [hc])
  have tk : TripP b (firstP b) (r0 ++ [e.name]) := by
    have := h2.take (r0.length + 1)
    rwa [List.take_append_of_le_length (by simp), List.take_of_length_le (by simp)] at this
  have last : ∀ {r : List Str} {can : List Str}, TripP b can (r ++ [e.name] ++ [x]) → x ∈ e.later := by
    intro r
    induction r with
    | nil =>
      intro can ⟨_, f, hf, hfn, hx, _⟩
      rw [← ent_unique wf.wd hf he hfn]
      exact hx
    | cons y r ih =>
      intro can ⟨_, f, hf, hfn, ht⟩
      exact ih ht
  rw [tripLeft_snoc wf.wd he nm] at h3
  exact ⟨tripLeft b p r0, e, r0, he, ⟨by simpa using h1, tk, rfl⟩, last h2, h3.symm, rfl⟩
/-- the table of the next day, in the making: of these keys all is in it -/
structure NextOk (b : Bs) (p : List Str) (n : Nat) (T : List ((List Str × Str) × Int)) (D : List Str → Ent → Str → Prop) (N : List ((List Str × Str) × Int)) : Prop where
  snd : ∀ q x v, getK N (q, x) = some v → ∃ row, RowTo b p (n + 1) q x row ∧ tripDigs b p row = v
  top : ∀ q e x z, D q e x → getK T (q, e.name) = some z → ∃ v, getK N (behindP q e.wishes e.back, x) = some v ∧ z + (digsP q e.wishes : Int) ≤ v
  nd : (N.map Prod.fst).Nodup
theorem NextOk.put {b : Bs} (wf : WF b) {p : List Str} {n : Nat} {T N : List ((List Str × Str) × Int)} {D D' : List Str → Ent → Str → Prop} (ok : TabOk b p n T) (h : NextOk b p n T D N) {q : List Str} {e : Ent} (he : e ∈ b.ws) {x : Str} (hx : x ∈ e.later) {z : Int} (hz : getK T (q, e.name) = some z)
    (big : ∀ v, getK N (behindP q e.wishes e.back, x) = some v → v ≤ z + (digsP q e.wishes : Int)) (hD : ∀ q' e' x', D' q' e' x' → D q' e' x' ∨ (q' = q ∧ e' = e ∧ x' = x)) : NextOk b p n T D' (setK N (behindP q e.wishes e.back, x) (z + (digsP q e.wishes : Int))) := by
  refine ⟨fun q' x' v hv => ?_, fun q' e' x' z' d hz' => ?_, keys_set h.nd⟩
  · rw [getK_set] at hv
    split at hv
    · rename_i c
      cases hv
      cases c
      obtain ⟨row, r1, r2⟩ := ok.snd _ _ _ hz
      obtain ⟨a1, a2⟩ := r1.next wf he hx
      exact ⟨_, a1, by rw [a2, r2]⟩
    · exact h.snd _ _ _ hv
  · rw [getK_set]
    rcases hD _ _ _ d with d | ⟨rfl, rfl, rfl⟩
    · obtain ⟨v, hv, le⟩ := h.top _ _ _ _ d hz'
      by_cases c : (behindP q' e'.wishes e'.back, x') = (behindP q e.wishes e.back, x)
      · rw [if_pos c]
        rw [c] at hv
        exact ⟨_, rfl, Int.le_trans le (big v hv)⟩
      · rw [if_neg c]
        exact ⟨v, hv, le⟩
    · rw [if_pos rfl]
      rw [hz] at hz'
      cases hz'
      exact ⟨_, rfl, Int.le_refl _⟩
theorem NextOk.keep {b : Bs} {p : List Str} {n : Nat} {T N : List ((List Str × Str) × Int)} {D D' : List Str → Ent → Str → Prop} (h : NextOk b p n T D N) {q : List Str} {e : Ent} {x : Str} {z v : Int} (hz : getK T (q, e.name) = some z) (hv : getK N (behindP q e.wishes e.back, x) = some v) (le : z + (digsP q e.wishes : Int) ≤ v)
    (hD : ∀ q' e' x', D' q' e' x' → D q' e' x' ∨ (q' = q ∧ e' = e ∧ x' = x)) : NextOk b p n T D' N := by
  refine ⟨h.snd, fun q' e' x' z' d hz' => ?_, h.nd⟩
  rcases hD _ _ _ d with d | ⟨rfl, rfl, rfl⟩
  · exact h.top _ _ _ _ d hz'
  · rw [hz] at hz'
    cases hz'
    exact ⟨v, hv, le⟩
theorem NextOk.done {b : Bs} (wf : WF b) {p : List Str} {n : Nat} {T N : List ((List Str × Str) × Int)} {D : List Str → Ent → Str → Prop} (ok : TabOk b p n T) (h : NextOk b p n T D N) (all : ∀ q e x z, e ∈ b.ws → getK T (q, e.name) = some z → x ∈ e.later → D q e x) : TabOk b p (n + 1) N := by
  refine ⟨h.snd, fun q x row r => ?_, h.nd⟩
  obtain ⟨q0, e, r0, he, r1, hx, rfl, rfl⟩ := r.split wf
  obtain ⟨z, hz, le⟩ := ok.top _ _ _ r1
  obtain ⟨v, hv, le2⟩ := h.top _ _ _ _ (all _ _ _ _ he hz hx) hz
  obtain ⟨_, a2⟩ := r1.next wf he hx
  exact ⟨v, hv, by rw [a2]; omega⟩
end Px

namespace K20
open PySem PySem.Spec PyProof.Rows L2 Gx Tx Px Pm
theorem Paired.of_mem2 {α β : Type} {R : α → β → Prop} : ∀ {xs : List α} {ys : List β}, Paired R xs ys → ∀ {y : β}, y ∈ ys → ∃ x ∈ xs, R x y
  | _, _, .nil, y, h => by cases h
  | _, _, .cons a t, y, h => by
    rcases List.mem_cons.mp h with rfl | h
    · exact ⟨_, List.mem_cons_self, a⟩
    · obtain ⟨x, hx, r⟩ := Paired.of_mem2 t h
      exact ⟨x, List.mem_cons_of_mem _ hx, r⟩
theorem NextOk.mono' {b : Bs} {p : List Str} {n : Nat} {T N : List ((List Str × Str) × Int)} {D D' : List Str → Ent → Str → Prop} (h : NextOk b p n T D N) (hD : ∀ q e x, D' q e x → D q e x) : NextOk b p n T D' N := ⟨h.snd, fun q e x z d hz => h.top q e x z (hD _ _ _ d) hz, h.nd⟩
theorem last_max : ∀ {ns : List Int} (ne : ns ≠ []), List.Pairwise (· ≤ ·) ns → ∀ y ∈ ns, y ≤ ns.getLast ne
  | [x], _, _, y, hy => by rw [List.mem_singleton.mp hy]; exact Int.le_refl _
  | x :: z :: ns, ne, pw, y, hy => by
    rw [List.getLast_cons (by simp)]
    rw [List.pairwise_cons] at pw
    rcases List.mem_cons.mp hy with rfl | hy
    · exact Int.le_trans (pw.1 z List.mem_cons_self) (last_max (by simp) pw.2 z List.mem_cons_self)
    · exact last_max (by simp) pw.2 y hy
theorem trip_on {b : Bs} (wf : WF b) {f : Str} (hf : firstP b = [f]) (fn : f ∈ b.names) {row : List Str} (tp : TripP b (firstP b) row) : ∃ x, TripP b (firstP b) (row ++ [x]) := by
  by_cases c : row = []
  · subst c
    obtain ⟨e, he, hen⟩ := List.mem_map.mp fn
    exact ⟨f, by rw [hf]; exact List.mem_singleton.mpr rfl, e, he, hen, trivial⟩
  · obtain ⟨e, he, hen⟩ := List.mem_map.mp (tp.names _ (List.getLast_mem c))
    obtain ⟨x, hx⟩ := List.exists_mem_of_ne_nil _ (wf.we e he).l0
    obtain ⟨g, hg, hgn⟩ := List.mem_map.mp ((wf.we e he).l x hx)
    refine ⟨x, TripP.snoc wf tp hg hgn (fun z => absurd z c) (fun h hh z => ?_)⟩
    rw [List.getLast?_eq_some_getLast c] at z
    have : e = h := ent_unique wf.wd he hh (by rw [hen]; exact Option.some.inj z)
    rw [← this]
    exact hx
theorem trip_ex {b : Bs} (wf : WF b) {f : Str} (hf : firstP b = [f]) (fn : f ∈ b.names) : ∀ n : Nat, ∃ row, row.length = n ∧ TripP b (firstP b) row
  | 0 => ⟨[], rfl, trivial⟩
  | n + 1 => by
    obtain ⟨row, h, tp⟩ := trip_ex wf hf fn n
    obtain ⟨x, tx⟩ := trip_on wf hf fn tp
    exact ⟨row ++ [x], by rw [List.length_append, h]; rfl, tx⟩
theorem r_law_rows {b : Bs} (wf : WF b) {p : List Str} (pp : PackP b p) {days : Int} (h0 : 0 ≤ days) (h1 : days ≤ 1000) {k : Int → Prop} (hk : ∀ v, MaxP b p 1 days.toNat v → k v) : w_law_rows (b, p, days, 1, ()) k := by
  unfold w_law_rows wT d_law_rows
  refine up_of fun k' hm => ?_
  dsimp only
  have hw1 := wf.w1
  have lt : 0 < b.ws.length := by omega
  obtain ⟨f, ef, hf, fn⟩ := firstP_ne wf
  have e0 : b.ws[0].name = f := by
    rw [show (0 : Int) = ((0 : Nat) : Int) from rfl, atI_cast] at ef
    unfold Bs.names at ef
    rw [List.getElem?_map, List.getElem?_eq_getElem lt] at ef
    exact Option.some.inj ef
  refine ⟨b.ws[0], by rw [show (0 : Int) = ((0 : Nat) : Int) from rfl, atI_cast]; exact List.getElem?_eq_getElem lt, ⟨by omega, by omega⟩, ?_⟩
  rw [e0]
  refine wFor_rem (fun rest e => e.1 = (b, p, days, 1, ()) ∧ ∃ n : Nat, rest = (rangeL days).drop n ∧ n ≤ days.toNat ∧ TabOk b p n e.2.now) (fun x rest e kn ⟨i1, n, i2, i3, i4⟩ hn _ => ?turn) (fun e ⟨i1, n, i2, i3, i4⟩ => ?fin) ⟨rfl, 0, rfl, Nat.zero_le _, TabOk.zero hf fn⟩
  case fin =>
    have en : n = days.toNat := by
      have := drop_end i2
      rw [rangeL_len] at this
      omega
    subst en
    obtain ⟨⟨b', p', d', s', u⟩, loc⟩ := e
    cases i1
    have i4 : TabOk b p days.toNat loc.now := i4
    have few : loc.now.length ≤ 480 := TabOk.few (n := 0) wf pp (fun q x v hv => by
      obtain ⟨row, r, _⟩ := i4.snd q x v hv
      exact r.keys wf pp) i4.nd
    dsimp only
    refine ⟨by rw [List.length_map]; exact le_line (by omega), ?_⟩
    refine wComp_rel (fun (s : List Str × Str) (y : Int) => getK loc.now s = some y) (fun s hs kn hn => ?_) (fun ys py ns pm pw => ?_)
    · obtain ⟨v, hv⟩ := Option.isSome_iff_exists.mp (getK_key.mpr hs)
      exact ⟨v, hv, hn _ hv⟩
    · rw [List.nil_append] at pm
      rw [if_pos (show decide ((0 : Int) < 1) = true from rfl)]
      have vals : ∀ y ∈ ns, ∃ row, row.length = days.toNat ∧ TripP b (firstP b) row ∧ tripDigs b p row = y := fun y hy => by
        obtain ⟨s, hs, hy'⟩ := Paired.of_mem2 py (pm.mem_iff.mp hy)
        obtain ⟨row, r, rd⟩ := i4.snd s.1 s.2 y hy'
        refine ⟨row, r.1, ?_, rd⟩
        have := r.2.1.take row.length
        rwa [List.take_append_of_le_length (Nat.le_refl _), List.take_of_length_le (Nat.le_refl _)] at this
      have tops : ∀ row, row.length = days.toNat → TripP b (firstP b) row → ∃ y ∈ ns, tripDigs b p row ≤ y := fun row hl tp => by
        obtain ⟨x, tx⟩ := trip_on wf hf fn tp
        obtain ⟨v, hv, le⟩ := i4.top _ x row ⟨hl, tx, rfl⟩
        have ks := getK_key.mp (Option.isSome_iff_exists.mpr ⟨v, hv⟩)
        obtain ⟨y, hy, hy'⟩ := Paired.of_mem py ks
        rw [hv] at hy'
        cases hy'
        exact ⟨v, pm.mem_iff.mpr hy, le⟩
      have ne : ns ≠ [] := fun z => by
        obtain ⟨row, a1, a2⟩ := trip_ex wf hf fn days.toNat
        obtain ⟨y, hy, _⟩ := tops row a1 a2
        rw [z] at hy
        cases hy
      have hl : ns.getLast? = some (ns.getLast ne) := List.getLast?_eq_some_getLast ne
      refine ⟨ns.getLast ne, ?_, hm _ (hk _ ⟨fun row a1 a2 => ?_, ?_⟩)⟩
      · unfold L2.atI L2.ixN
        have lp : 0 < ns.length := List.length_pos_iff.mpr ne
        rw [if_neg (by omega), if_pos (by omega)]
        show ns[(-1 + (ns.length : Int)).toNat]? = _
        rw [show (-1 + (ns.length : Int)).toNat = ns.length - 1 by omega, ← List.getLast?_eq_getElem?]
        exact hl
      · obtain ⟨y, hy, le⟩ := tops row a1 a2
        have := last_max ne pw y hy
        omega
      · obtain ⟨row, a1, a2, a3⟩ := vals _ (List.getLast_mem ne)
        exact ⟨row, a1, a2, by omega⟩
  case turn =>
    obtain ⟨ea, eb⟩ := drop_step i2
    obtain ⟨rfl, ltn⟩ := rangeL_at ea
    obtain ⟨⟨b', p', d', s', u⟩, loc⟩ := e
    cases i1
    have i4 : TabOk b p n loc.now := i4
    dsimp only
    refine wFor_rem (fun rest2 e2 => e2.1.1 = (b, p, days, 1, ()) ∧ e2.1.2.now = loc.now ∧ ∃ dn, loc.now.map Prod.fst = dn ++ rest2 ∧ NextOk b p n loc.now (fun q e x => e ∈ b.ws ∧ (q, e.name) ∈ dn ∧ x ∈ e.later) e2.1.2.later) (fun s rest2 e2 kn2 ⟨j1, j2, dn, j3, j4⟩ hn2 _ => ?spot) (fun e2 ⟨j1, j2, dn, j3, j4⟩ => ?next)
      ⟨rfl, rfl, [], rfl, ⟨fun q x v h => (by rw [getK_nil] at h; cases h), fun q e x z d _ => (List.not_mem_nil d.2.1).elim, (show ((([] : List ((List Str × Str) × Int)).map Prod.fst)).Nodup from List.nodup_nil)⟩⟩
    case next =>
      rw [List.append_nil] at j3
      refine hn _ ⟨j1, n + 1, eb, by omega, NextOk.done wf i4 j4 fun q e x z he hz hx => ⟨he, ?_, hx⟩⟩
      rw [← j3]
      exact getK_key.mp (Option.isSome_iff_exists.mpr ⟨z, hz⟩)
    case spot =>
      obtain ⟨⟨pr2, loc2⟩, xi⟩ := e2
      cases j1
      have j2 : loc2.now = loc.now := j2
      have j4 : NextOk b p n loc.now (fun q e x => e ∈ b.ws ∧ (q, e.name) ∈ dn ∧ x ∈ e.later) loc2.later := j4
      obtain ⟨q, w⟩ := s
      obtain ⟨z, hz⟩ := Option.isSome_iff_exists.mp (getK_key.mpr (show (q, w) ∈ loc.now.map Prod.fst by rw [j3]; simp))
      obtain ⟨row, rt, rd⟩ := i4.snd q w z hz
      obtain ⟨pq, wn⟩ := rt.keys wf pp
      obtain ⟨en, he, rfl⟩ := List.mem_map.mp wn
      refine r_law_day wf pq he (r_law_entry wf he ?_)
      dsimp only
      refine wFor_rem (fun rest3 e3 => e3.1.1.1 = (b, p, days, 1, ()) ∧ e3.1.1.2.now = loc.now ∧ e3.2 = (q, en.name) ∧ e3.1.1.2.found = (digsP q en.wishes : Int) ∧ e3.1.1.2.left_here = behindP q en.wishes en.back ∧ ∃ d3, en.later = d3 ++ rest3 ∧ NextOk b p n loc.now (fun q' e' x' => (e' ∈ b.ws ∧ (q', e'.name) ∈ dn ∧ x' ∈ e'.later) ∨ (q' = q ∧ e' = en ∧ x' ∈ d3)) e3.1.1.2.later)
        (fun x rest3 e3 kn3 ⟨k1, k2, k3, k4, k5, d3, k6, k7⟩ hn3 _ => ?weather) (fun e3 ⟨k1, k2, k3, k4, k5, d3, k6, k7⟩ => ?last) ⟨rfl, j2, rfl, rfl, rfl, [], rfl, NextOk.mono' j4 fun q' e' x' d => ?start⟩
      case start =>
        rcases d with d | ⟨_, _, d⟩
        · exact d
        · exact (List.not_mem_nil d).elim
      case last =>
        rw [List.append_nil] at k6
        refine hn2 _ ⟨k1, k2, dn ++ [(q, en.name)], by rw [j3]; simp, NextOk.mono' k7 fun q' e' x' ⟨d1, d2, d3'⟩ => ?_⟩
        rcases List.mem_append.mp d2 with d2 | d2
        · exact .inl ⟨d1, d2, d3'⟩
        · rw [List.mem_singleton] at d2
          injection d2 with d4 d5
          have : e' = en := ent_unique wf.wd d1 he d5
          subst this
          exact .inr ⟨d4, rfl, by rw [← k6]; exact d3'⟩
      case weather =>
        obtain ⟨⟨⟨pr3, loc3⟩, xi3⟩, sp⟩ := e3
        cases k1
        cases k3
        have k2 : loc3.now = loc.now := k2
        have k4 : loc3.found = (digsP q en.wishes : Int) := k4
        have k5 : loc3.left_here = behindP q en.wishes en.back := k5
        have k7 : NextOk b p n loc.now (fun q' e' x' => (e' ∈ b.ws ∧ (q', e'.name) ∈ dn ∧ x' ∈ e'.later) ∨ (q' = q ∧ e' = en ∧ x' ∈ d3)) loc3.later := k7
        have hx : x ∈ en.later := by rw [k6]; simp
        have few : loc3.later.length ≤ 480 := TabOk.few (n := 0) wf pp (fun q x v hv => by
          obtain ⟨row, r, _⟩ := k7.snd q x v hv
          exact r.keys wf pp) k7.nd
        have grow : ∀ q' e' x', ((e' ∈ b.ws ∧ (q', e'.name) ∈ dn ∧ x' ∈ e'.later) ∨ (q' = q ∧ e' = en ∧ x' ∈ d3 ++ [x])) → ((e' ∈ b.ws ∧ (q', e'.name) ∈ dn ∧ x' ∈ e'.later) ∨ (q' = q ∧ e' = en ∧ x' ∈ d3)) ∨ (q' = q ∧ e' = en ∧ x' = x) := fun q' e' x' d => by
          rcases d with d | ⟨d1, d2, d4⟩
          · exact .inl (.inl d)
          · rcases List.mem_append.mp d4 with d4 | d4
            · exact .inl (.inr ⟨d1, d2, d4⟩)
            · exact .inr ⟨d1, d2, List.mem_singleton.mp d4⟩
        dsimp only
        rw [k2, k4, k5]
        refine ⟨z, hz, ?_⟩
        rcases qv : getK loc3.later (behindP q en.wishes en.back, x) with _ | v
        · rw [if_pos (show (true != (none : Option Int).isSome) = true from rfl), if_pos rfl]
          exact ⟨le_line'' (by omega), hn3 _ ⟨rfl, rfl, rfl, rfl, rfl, d3 ++ [x], by rw [k6]; simp, NextOk.put wf i4 k7 he hx hz (fun v hv => by rw [qv] at hv; cases hv) grow⟩⟩
        · rw [if_neg (show ¬ (true != (some v : Option Int).isSome) = true from by simp)]
          refine ⟨v, rfl, .inr ⟨by decide, by decide⟩, ?_⟩
          by_cases c : 0 < z + (digsP q en.wishes : Int) - v
          · rw [if_pos (decide_eq_true (by omega))]
            exact ⟨le_line'' (by omega), hn3 _ ⟨rfl, rfl, rfl, rfl, rfl, d3 ++ [x], by rw [k6]; simp, NextOk.put wf i4 k7 he hx hz (fun v' hv => by rw [qv] at hv; cases hv; omega) grow⟩⟩
          · rw [if_neg (by simp only [decide_eq_true_eq]; omega)]
            exact hn3 _ ⟨rfl, rfl, rfl, rfl, rfl, d3 ++ [x], by rw [k6]; simp, NextOk.keep k7 hz qv (by omega) grow⟩
end K20

namespace K20
open PySem PySem.Spec PyProof.Rows L2 Gx Tx Px Pm
theorem lexF_nodup : ∀ (k : Nat) {xs : List Str}, xs.length = k → xs.Nodup → (lexF k xs).Nodup
  | 0, xs, h, _ => by
    show [([] : List Str)].Nodup
    simp
  | k + 1, xs, h, nd => by
    unfold lexF
    rw [List.Nodup, List.pairwise_flatMap]
    refine ⟨fun d hd => ?_, ?_⟩
    · have lt : d < xs.length := List.mem_range.mp hd
      rw [List.getElem?_eq_getElem lt]
      refine List.pairwise_map.mpr ?_
      have len : (xs.eraseIdx d).length = k := by
        rw [List.length_eraseIdx_of_lt lt]
        omega
      exact (lexF_nodup k len (nd.sublist (List.eraseIdx_sublist ..))).imp fun h z => h (by injection z)
    · refine (List.nodup_range (n := xs.length)).imp_of_mem ?_
      intro d1 d2 h1 h2 ne p hp q hq z
      have l1 : d1 < xs.length := List.mem_range.mp h1
      have l2 : d2 < xs.length := List.mem_range.mp h2
      rw [List.getElem?_eq_getElem l1] at hp
      rw [List.getElem?_eq_getElem l2] at hq
      obtain ⟨r1, _, rfl⟩ := List.mem_map.mp hp
      obtain ⟨r2, _, rfl⟩ := List.mem_map.mp hq
      injection z with z1 z2
      exact ne ((List.getElem_inj nd).mp z1)
theorem perms_nd {b : Bs} (wf : WF b) : (permsL b.things).Nodup := lexF_nodup _ rfl wf.td
theorem MaxP.same {b : Bs} {p : List Str} {n : Nat} {v w : Int} (h : MaxP b p 1 n v) (g : MaxP b p 1 n w) : v = w := by
  obtain ⟨h1, t, t1, t2, t3⟩ := h
  obtain ⟨g1, r, r1, r2, r3⟩ := g
  have a := h1 r r1 r2
  have c := g1 t t1 t2
  omega
theorem maxs_same {b : Bs} {n : Nat} {ps : List (List Str)} {xs : List Int} (h : Paired (fun p v => MaxP b p 1 n v) ps xs) : ∀ {ys : List Int}, Paired (fun p v => MaxP b p 1 n v) ps ys → ys = xs := by
  induction h with
  | nil => intro ys g; cases g; rfl
  | cons a t ih =>
    intro ys g
    cases g with
    | cons c r => rw [ih r, c.same a]
theorem rows_of {b : Bs} {n : Nat} {ps : List (List Str)} {rows : List (List Str × Int)} (h : Paired (fun p (z : List Str × Int) => z.1 = p ∧ MaxP b p 1 n z.2) ps rows) : rows = ps.zip (rows.map Prod.snd) ∧ Paired (fun p v => MaxP b p 1 n v) ps (rows.map Prod.snd) := by
  induction h with
  | nil => exact ⟨rfl, .nil⟩
  | @cons p z ps zs a t ih =>
    refine ⟨?_, .cons a.2 ih.2⟩
    rw [List.map_cons, List.zip_cons_cons, ← ih.1, ← a.1]
/-- a turn's look at so many days -/
theorem r_t_law (v0 : V) (kn : Kn (V × Loc_t_law) Bool) (l0 : Loc_t_law) (h : ∀ e, e.1 = v0 → kn.nx e) : d_t_law.1 (v0, l0) kn := by
  unfold d_t_law
  dsimp only
  refine ⟨by omega, wFor_rem (fun _ e => e.1 = v0) (fun x rest e k0 i0 hn0 _ => ?turn) (fun e i0 => h e i0) rfl⟩
  case turn =>
    dsimp only
    split
    all_goals
      refine ⟨by omega, by omega, fun b wf => ⟨wf, ?_⟩⟩
      dsimp only
      refine ⟨by omega, by omega, fun y2 a0 a1 => ?_⟩
      have t5 := wf.t5
      have pf := permsL_few wf
      have pd := perms_nd wf
      dsimp only
      refine ⟨by omega, by omega, fun xd x0 x1 => ?_⟩
      dsimp only at a1 x1
      have okd : ∀ d ∈ [0, 1, 2 + y2, xd], 0 ≤ d ∧ d ≤ 1000 := fun d hd => by
        simp only [List.mem_cons, List.not_mem_nil, or_false] at hd
        omega
      refine wFor_rem (fun rest e => e.1.1 = v0 ∧ e.1.2.base = b ∧ e.1.2.menu = b ∧ ∀ d ∈ rest, 0 ≤ d ∧ d ≤ 1000) (fun d rest e k1 ⟨j1, j2, j3, j4⟩ hn _ => ?days) (fun e ⟨j1, j2, j3, _⟩ => ?fin) ⟨i0, rfl, rfl, okd⟩
      case fin =>
        dsimp only
        rw [j2, j3]
        refine ⟨wf, wf, wf, ?_⟩
        rw [if_neg (by simp)]
        exact hn0 _ j1
      case days =>
        obtain ⟨d0, d1⟩ := j4 d List.mem_cons_self
        dsimp only
        rw [j2, j3]
        refine r_packs 6 (by omega) t5 ⟨le_line (by omega), ?_⟩
        refine wComp_rel (fun p (z : List Str × Int) => z.1 = p ∧ MaxP b p 1 d.toNat z.2) (fun p hp kn hkn => by
          dsimp only
          rw [j2]
          exact r_law_rows wf (permsL_pack.mp hp) d0 d1 fun v mx => hkn (p, v) ⟨rfl, mx⟩) (fun rows pr => ?_)
        rw [List.nil_append]
        obtain ⟨er, pv⟩ := rows_of pr
        have lr := Paired.length pr
        generalize rows.map Prod.snd = vals at er pv
        have lv := Paired.length pv
        refine ⟨le_line (by omega), wComp_f ?_⟩
        have ev : (rows.map fun x => x.2) = vals := by
          rw [er]
          exact List.map_snd_zip (by omega)
        rw [ev]
        have vne : 0 < vals.length := by
          rw [← lv]
          exact List.length_pos_iff.mpr perms_ne
        refine ⟨vne, fun m m1 m2 => ⟨le_line (by omega), ?_⟩⟩
        refine wComp_flt (fun q : List Str × Int => decide (q.2 = m)) Prod.fst (fun q _ kn hn => hn) (fun q _ kn hn => hn) ?_
        rw [List.nil_append, er]
        refine r_least_most wf pd d0 d1 fun ys m' py h1 h2 => ?_
        have ey := maxs_same pv py
        subst ey
        have em : m' = m := Int.le_antisymm (h2 m m1) (m2 m' h1)
        subst em
        rw [if_neg (by simp)]
        refine ⟨by omega, ?_⟩
        have dueP : ∀ r ∈ (((permsL b.things).zip ys).filter fun q => decide (q.2 = m')).map Prod.fst, PackP b r := fun r hr => by
          obtain ⟨q, hq, rfl⟩ := List.mem_map.mp hr
          exact permsL_pack.mp (List.of_mem_zip (List.mem_filter.mp hq).1).1
        have dueN : (((permsL b.things).zip ys).filter fun q => decide (q.2 = m')).map Prod.fst ≠ [] := fun z => by
          obtain ⟨p, hp, mx⟩ := Paired.of_mem2 py h1
          obtain ⟨i, hi, ei⟩ := List.mem_iff_getElem.mp h1
          have li : i < (permsL b.things).length := by omega
          have : ((permsL b.things)[i], m') ∈ ((permsL b.things).zip ys).filter fun q => decide (q.2 = m') := by
            refine List.mem_filter.mpr ⟨?_, by simp⟩
            refine List.mem_iff_getElem?.mpr ⟨i, ?_⟩
            rw [List.getElem?_zip_eq_some]
            exact ⟨List.getElem?_eq_getElem li, by rw [List.getElem?_eq_getElem hi, ei]⟩
          rw [List.map_eq_nil_iff] at z
          rw [z] at this
          cases this
        have dueL : ((((permsL b.things).zip ys).filter fun q => decide (q.2 = m')).map Prod.fst).length ≤ 120 := by
          rw [List.length_map]
          refine Nat.le_trans (List.length_filter_le _ _) ?_
          rw [List.length_zip]
          omega
        refine wFor_rem (fun _ e' => e'.1.1.1 = v0 ∧ e'.1.1.2.base = b ∧ e'.1.1.2.menu = b ∧ e'.2 = d ∧ e'.1.1.2.due = (((permsL b.things).zip ys).filter fun q => decide (q.2 = m')).map Prod.fst) (fun y rest' e' k2 ⟨l1, l2, l3, l4, l5⟩ hn2 _ => ?lap) (fun e' ⟨l1, l2, l3, l4, l5⟩ => hn _ ⟨l1, l2, l3, fun d hd => j4 d (List.mem_cons_of_mem _ hd)⟩) ⟨j1, rfl, rfl, rfl, rfl⟩
        case lap =>
          dsimp only
          rw [l3, l4]
          refine r_best_packings wf pd d0 d1 fun ys2 m2' py2 g1 g2 => ?_
          have ey2 := maxs_same py py2
          subst ey2
          have em2 : m2' = m' := Int.le_antisymm (g2 m' h1) (h2 m2' g1)
          subst em2
          refine ⟨fun r hr v hv => NM.ok (wf.tn v ((dueP r hr).mem_iff.mp hv)), fun r hr v hv => NM.ok (wf.tn v ((dueP r (by rw [← l5]; exact hr)).mem_iff.mp hv)), ?_⟩
          rw [if_pos l5.symm]
          refine ⟨dueN, le_line'' (by omega), fun r hr => le_line'' (by rw [(dueP r hr).len]; omega), hn2 _ ⟨l1, l2, l3, l4, l5⟩⟩
end K20

namespace K20
open PySem PySem.Spec PyProof.Rows L2 Gx Tx Px
theorem _root_.Gx.ScrAt.sm {K : PySem.W.Frag} {H H' : Hp} {a : Addr} {ns : List Int} (h : ScrAt K H a ns) (k : Same H H') : ScrAt K H' a ns := h.mono fun b o u e => k _ _ e
theorem _root_.Gx.SrcAt.of {H : Hp} {p : Addr} {o : HO} (h : SrcO o) (e : H p = some o) : SrcAt H p := by
  obtain ⟨x, y, rfl, r⟩ := h
  exact ⟨x, y, e, r⟩
def spLaw (K : PySem.W.Frag) : Sp := fun vs H Q _ => ∃ (a : Addr) (ns : List Int), vs = [.ref a] ∧ ScrAt K H a ns ∧ ns.length ≤ 63 ∧ (∀ z ∈ ns, Builtin.Int.intBits z ≤ 1048576) ∧ ∀ H', Q (.bl true) H'
section
variable {P : Program} {w : World} {K : PySem.W.Frag} {mg : Str → Option Value} {base : Heap}
theorem fn_law (F : Facts K mg) {fd : FuncData} (D : FunD K "law" "law" (defArgs s_law) (defBody s_law) (defScope s_law) [] [] (He.ga K "law") fd) : FnG P w K mg base CX0 11 (He.ga K "law") fd ["script"] (spLaw K) := by
  refine FnG.body D sc_law (fun vs H Q E h => ?_) (fun cdv A outer s H vs Q E hg hr h => ?_)
  · obtain ⟨_, _, rfl, _⟩ := h
    rfl
  · have hu := hu_of hr
    obtain ⟨tt, pt, ft⟩ := (d_t_law.2 F cdv A outer s H E hr).ex
    refine ⟨_, PSs.nox (pss_cons (ps_for PassesOwn.never rfl (pi_range1 rfl (z_range F) (pa_cons (pe_callB (call_max2 rfl) (by rfl) (z_max F) (by decide +kernel) (pa_cons pe_int (pa_cons (pe_callB (call_min2 rfl) (by rfl) (z_min F) (by decide +kernel) (pa_cons pe_int (pa_cons (pe_callB call_len (by rfl) (z_len F) boot_len (pa_cons (pv 0) pa_nil)) pa_nil))) pa_nil))) pa_nil)) (pg_name (i := 1) sc_law.nd rfl (Or.inl rfl))
      (pss_cons (ps_set (i := 2) sc_law.nd rfl (Or.inl rfl) (pe_ca (ca_law_source F) (hr.mono (by decide)) rfl pass0 (pa_cons (pv 0) (pa_cons (pv 1) pa_nil))))
    (pt ())))
    (pss_one (ps_ret pe_bl))), ?_⟩
    obtain ⟨a, ns, rfl, hS, hl, hb, q⟩ := h
    refine ⟨_, rfl, _, _, rfl, .inl ⟨_, hS.sq, rfl⟩, _, _, rfl, _, _, rfl, _, rfl, ?_, ?_, ?_⟩
    · repeat' split
      all_goals omega
    · repeat' split
      all_goals omega
    refine for_range (lo := 0) (fun i σ H' => ScrAt K H' a ns ∧ σ.length = 14 ∧ σ[0]? = some (some (.ref a))) ⟨hS, rfl, rfl⟩ (fun i σ H' hi z => ?_) (fun σ H' z => q H')
    obtain ⟨hS', hlen, hs0⟩ := z
    have hi4 : i < 5 := by
      revert hi
      repeat' split
      all_goals omega
    have h0 : (σ.set 1 (some (.int (0 + (i : Int)))))[0]? = some (some (.ref a)) := by
      rw [List.getElem?_set_ne (by decide)]
      exact hs0
    have h1 : (σ.set 1 (some (.int (0 + (i : Int)))))[1]? = some (some (.int (0 + (i : Int)))) := List.getElem?_set_self (by omega)
    refine ⟨.ref a, h0, .int (0 + (i : Int)), h1, a, ns, _, rfl, hS'.sq, hl, hb, by omega, by omega, fun p o hp ho => ?_⟩
    generalize g1 : upd _ p _ = H1
    obtain ⟨s1, e1, _⟩ := laid g1 hp
    have r1 : SrcAt H1 p := SrcAt.of ho e1
    have S1 := ScrAt.sm hS' s1
    have r1' := r1
    obtain ⟨x1, y1, ep, _⟩ := r1'
    refine ft ⟨H1, fun z => z = p, fun z => z = p⟩ _ H1 (.ref a, {}) (fun j => if j = 2 then some p else none) _ ?_ (r_t_law _ _ _ fun e' he' => ?_)
    · refine ⟨by simp [hlen], fun _ _ _ z => z, fun z e => by rw [e]; exact .lst ep, fun z e => e, fun z e => ⟨2, rfl, by rw [e]; rfl⟩, fun i j z e1 e2 => ?_, fun j hj => ?_, fun j sl hj => ?_⟩
      · by_cases c1 : i = 2 <;> by_cases c2 : j = 2
        · rw [c1, c2]
        · rw [if_neg c2] at e2; cases e2
        · rw [if_neg c1] at e1; cases e1
        · rw [if_neg c1] at e1; cases e1
      · by_cases c : j = 2
        · subst c
          cases hj
        · rw [if_neg c]
      · rcases j with _ | _ | _ | _ | _ | _ | _ | _ | _ | _ | _ | _ | _ | _ | j
        · cases hj
          exact ⟨rfl, .ref a, by rw [List.getElem?_set_ne (by decide)]; exact h0, rfl⟩
        · cases hj
          rfl
        · cases hj
          exact ⟨p, rfl, List.getElem?_set_self (by rw [List.length_set, hlen]; decide), .inl rfl, r1⟩
        all_goals (cases hj <;> rfl)
    · intro σ' H' own' st
      have keep : ScrAt K H' a ns := by
        refine S1.mono fun b o u e => st.stay b _ (fun z => ?_) e
        have z : b = p := z
        have e' : H1 b = some (.frz o u) := e
        rw [z, ep] at e'
        cases e'
      obtain ⟨_, v, hv, rv⟩ := st.slot 0 _ rfl
      have : v = e'.1 := rv
      rw [this, he'] at hv
      exact ⟨keep, st.len, hv⟩
end
end K20

namespace K20
open PySem PySem.Spec PyProof.Rows L2 Gx
abbrev R : PySem.W.OpenRow := PySem.W.OpenLaw.row PySem.Challenge.rw_dugdays_k20_best_packings_told
abbrev hk : PySem.W.Hook := hookY 6 fa fn ex
def ob (s : PySem.W.SharedT) : He.AlD × Bool := obY 6 fa fn ex (HandSHeadRun.getT s)
theorem ob_eq (s : PySem.W.SharedT) : ob s = hk.obs s.abs := obY_eq (HandSHeadRun.getT_eq s)
def loose : List Str := (["permutations", "DigError", "BadThings", "BadWeathers", "BadWeather", "LETTERS", "MOST_LETTERS", "MOST_THINGS", "MOST_WEATHERS", "WAYS_BACK", "is_name", "are_different", "are_names", "are_things", "is_row_of", "is_weather_entry", "are_weathers", "digs_for", "put_behind", "live_through"] : List Str) ++ (["ways_from", "best_gains", "all_packings", "most_of_each", "least_most", "best_packings", "Menu", "_law_source", "_law_draw", "_law_pick", "_law_mixed", "_law_word", "_law_names", "_law_some", "_law_base", "_law_made", "_law_entry", "_law_day", "_law_packings", "_law_rows"] : List Str) ++ (["__name__"] : List Str)
set_option maxHeartbeats 0 in
theorem run (w : World) : HandSHeadRun.RunEqI R (PySem.W.view R.prog [46]) hk ob 20000 loose w := by
  unfold HandSHeadRun.RunEqI
  kernel_rfl
end K20
open PySem PySem.W PySem.Calls PyProof.Rows
set_option maxRecDepth 100000 in
set_option maxHeartbeats 0 in
theorem PySem.Challenge.cw_dugdays_k20_best_packings_told_holds : PySem.Challenge.rw_dugdays_k20_best_packings_told.Holds := by
  w_on; o_law
  refine HandSHeadRun.head_imp (r := OpenLaw.row PySem.Challenge.rw_dugdays_k20_best_packings_told) (q := view (OpenLaw.row PySem.Challenge.rw_dugdays_k20_best_packings_told).prog [46]) (H := K20.hk) (ob := K20.ob) (M := 20000) (loose := K20.loose)
    (d := HandSHeadRun.topDef (OpenLaw.row PySem.Challenge.rw_dugdays_k20_best_packings_told).prog 46) (kwd := []) K20.ob_eq K20.run (by kernel_rfl) (by kernel_rfl) (by kernel_rfl) (by rfl) (by first | assumption | decide +kernel) (by decide +kernel) ⟨rfl, rfl, rfl, rfl, rfl, by decide +kernel⟩ ?hw ?hc
  case hw => w_witness2
  case hc =>
    refine Gx.walk_G (l := PySem.Challenge.rw_dugdays_k20_best_packings_told) (k := 11) (x := "script") (CX := fun _ => L2.CX0) rfl (by kernel_rfl) ⟨rfl, by decide, by decide⟩ ?F (fun _ _ _ _ _ z => z)
    intro w mg fa h Y G hmg0
    obtain ⟨K, KX, c⟩ := Y
    have F : K20.Facts K mg := ⟨c, h, KX, G⟩
    have hmg : mg ("law" : PySem.Str) = some (.ref fa) := by
      have e : (HandSHeadRun.topDef (OpenLaw.row PySem.Challenge.rw_dugdays_k20_best_packings_told).prog 46).name = ("law" : PySem.Str) := by kernel_rfl
      rw [← e]
      exact hmg0
    have e := hmg.symm.trans (K20.g_law F)
    cases e
    obtain ⟨fd, D⟩ := K20.fun_law F
    exact ⟨K, fd, K20.spLaw K, KX, fun s u => D.bindsA (ps := ["script"]) (fun _ _ _ _ _ _ us hl => match us, hl with | [_], _ => rfl) s [u] rfl, fun H a ns h1 h2 h3 => ⟨a, ns, rfl, h3, h1, h2, fun _ => rfl⟩, fun base _ _ => K20.fn_law F D⟩

