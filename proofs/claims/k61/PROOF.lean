import PyProof.Rows.All
import Wide.All
import OpenK.AllK
import Wide.FinOn
import PyProof.ReprRoads
import HandS.ForMost
import HandS.Exc
import HandS.TryOnly
import HandS.ExcOwn
import HandS.WordsExc
import HandS.Wide
import HandS.EndBits
import HandS.Defaults
import HandS.ExcInit
import HandS.ExcIs
import HandS.ExcField
import HandS.IsInst
import HandS.Property
import HandS.OwnEq
import HandS.DictComp
import HandS.DeepEq
import HandS.Strs
import HandS.Head0
import HandS.Head1
import HandS.Head2
import HandS.HeadEnd
import HandS.HeadHook1
import HandS.HeadHook2
import HandS.HeadHook4
import HandS.Walk
import HandS.MakeKw
import KE.KExcIs
import PySem.Challenge.RW_dugdays_k61_errors_by_hand
set_option Elab.async false
set_option linter.all false
set_option maxRecDepth 100000
set_option maxHeartbeats 4000000
/-! Own rules, laid over the hand layer: powers of great ints, repr of data, defs that may call repr. -/
namespace Gx
open PySem PySem.Spec PyProof.Rows L2

/-! ### great powers -/
theorem bits_of_lt {a : Int} {k : Nat} (h : a.natAbs < 2 ^ k) : Builtin.Int.intBits a ≤ k := by
  unfold Builtin.Int.intBits
  split
  · omega
  · rename_i hz
    have hne : a.natAbs ≠ 0 := by
      intro z
      apply hz
      have : a = 0 := Int.natAbs_eq_zero.mp z
      rw [this]; rfl
    have := (Nat.log2_lt hne).mpr h
    omega
theorem lt_of_bits {a : Int} {k : Nat} (h : Builtin.Int.intBits a ≤ k) : a.natAbs < 2 ^ k := by
  unfold Builtin.Int.intBits at h
  split at h
  · rename_i hz
    have : a = 0 := by simpa using hz
    rw [this]
    exact Nat.two_pow_pos k
  · have h2 : a.natAbs < 2 ^ (a.natAbs.log2 + 1) := Nat.lt_log2_self
    exact Nat.lt_of_lt_of_le h2 (Nat.pow_le_pow_right (by decide) h)
def PowFits (i j : Int) : Prop := 0 ≤ j ∧ (Builtin.Int.intBits i : Int) * j ≤ 2 ^ 27
theorem op_powW {X : Cx} : OpR X (binaryOp .Pow) (rI PowFits fun i j => .int (i ^ j.toNat)) := opI fun _ _ _ _ _ _ _ hc q => pow_int hc.1 hc.2 q

/-! ### defs that may run into repr: no guard runs ahead of them -/
structure FnG (P : Program) (w : World) (K : PySem.W.Frag) (mg : Str → Option Value) (base : Heap) (CX : CXT) (k : Nat) (f : Addr) (fd : FuncData) (ps : List Str) (sp : Sp) : Prop where
  len : ∀ vs H Q E, sp vs H Q E → vs.length = ps.length
  go : ∀ (A : Around) (fr : List Env) (s : Shared) (H : Hp) (gs : Args) (us : List Value) (vs : List V) (Q : VK) (E : XK), A.guards = some [] → Room k A → Env0 P w K mg base A fr s H → BindsTo s fd gs (ps.zip us) → Vals vs us →
    sp vs H Q E → codeAny (model P w) A (.call (.ref f) gs) (CR CX fr P w H s Q E) s
section
variable {P : Program} {w : World} {K : PySem.W.Frag} {mg : Str → Option Value} {base : Heap} {CX : CXT}
theorem FnG.of {k : Nat} {f : Addr} {fd : FuncData} {ps : List Str} {sp : Sp} (F : FnOk P w K mg base CX k f fd ps sp) : FnG P w K mg base CX k f fd ps sp :=
  ⟨F.len, fun A fr s H gs us vs Q E _ => F.run A fr s H gs us vs Q E⟩
/-- such a def's body, walked in its frame -/
theorem FnG.body {x qual : Str} {params : Arguments} {body : List Stmt} {scope : Scope} {dvs : List V} {kws : List (Str × V)} {f : Addr} {fd : FuncData} {N ps : List Str} {k : Nat} {sp : Sp} (F : FunD K x qual params body scope dvs kws f fd) (S : FnScope N ps scope)
    (ln : ∀ vs H Q E, sp vs H Q E → vs.length = ps.length)
    (hb : ∀ (cdv : Value) (A : Around) (fr : List Env) (s : Shared) (H : Hp) (vs : List V) (Q : VK) (E : XK), (A.deeper (envOfC qual scope s.heap.objs.size f cdv)).guards = some [] → Room k (A.deeper (envOfC qual scope s.heap.objs.size f cdv)) → sp vs H Q E →
      ∃ t, PSs (cxOf CX P w K mg base N qual scope f cdv A fr s H E) body t ∧ t { nx := fun _ H' => Q .non H', rt := Q } (start N vs) H) : FnG P w K mg base CX (k + 1) f fd ps sp := by
  refine ⟨ln, fun A fr s H gs us vs Q E hg hr e0 bt rv hs => ?_⟩
  obtain ⟨oc, od, dV, kV, doc, pm, an, cdv, ct, sl, rfl, lk, cc, _, _⟩ := F.ex
  have lv := ln _ _ _ _ hs
  have KX : K.In s.heap := e0.mod.kin.keeps fun b o e => (e0.bs b o e).1
  have nl : s.heap.NoLimit := e0.mod.nolimit.keeps fun b o e => (e0.bs b o e).1
  have kd : ∀ y ∈ ps.zip us, scope.names.lookup y.1 = some .local ∨ (scope.names.lookup y.1 = some .cell ∧ ((cellsFrom (s.heap.objs.size + 1) scope.names []).lookup y.1).isSome = true) := by
    rintro ⟨n, v⟩ hy
    have := S.par n (List.of_mem_zip hy).1
    exact this.imp id fun q => ⟨q, PySem.W.cellsFrom_some _ _ _ (.inl q)⟩
  apply codeAny_call_function hr.depth (KX _ _ lk) rfl S.co S.gen rfl (PySem.W.codeRec_of KX cc) (bt _ _ _ _ _)
  apply wpAny_newFunctionEnv_cells S.kind kd
  intro env he s1 x
  cases he
  refine ⟨nl.keeps x.toInCall.keep, codeAny_func ?_⟩
  obtain ⟨t, ht, q⟩ := hb cdv A fr s H vs Q E hg (hr.deeper _) hs
  refine wpAny_mono (ht.run [] s1 (start N vs) H _ (inv_start S hr.hd e0 lv rv x) q) ?_ fun e s' z => z
  rintro (_ | _ | _ | u) s' z
  · obtain ⟨σ', H', J, q⟩ := z
    exact ⟨V.non, H', J.os, J.bare, J.base, J.hok, rfl, q⟩
  · obtain ⟨_, _, _, q⟩ := z
    exact False.elim q
  · obtain ⟨_, _, _, q⟩ := z
    exact False.elim q
  · obtain ⟨v, σ', H', J, r, q⟩ := z
    exact ⟨v, H', J.os, J.bare, J.base, J.hok, r, q⟩
end

/-! ### calls of such defs -/
section
variable {X : Cx} {CX : CXT} {k : Nat} {f : Addr} {fd : FuncData} {ps : List Str} {sp : Sp} {dvs : List V} {ds : List Value} {E : XK} {x : Str} {p pos : Pos} {e : Expr} {es : List Expr} {t : TA}
theorem pe_callG (F : FnG X.prog X.w X.K X.mg X.base CX k f fd ps sp) (hgd : X.A.guards = some []) (hr : Room k X.A) (hg : Gl X x) (hm : X.mg x = some (.ref f)) (hk : PySem.W.keepIn X.K (.ref f) = true) (hb : Binds X.K fd ps ds) (hd : Vals dvs ds) (hx : Passes CX X E)
    (ha : PA X (e :: es) t) (hdb : (x == ("__debug__" : Str)) = false := by decide) (he : starEach (e :: es) X.env = (false, eval e X.env) :: starEach es X.env := by rfl) (hpl : (backTo pos (starEach es X.env)).any (·.1) = false := by rfl) :
    PE X (.Call (.Name x p) (e :: es) [] pos) (tCall sp dvs E t) := by
  constructor
  intro pins s σ H Q I h
  apply wpAny_Call_Name_kw (ld_glob I hg hm ?_ hdb)
  refine PySem.W.callWith_K (h₀ := X.base) I.ok.mod.kin hk (thn (ha.run pos pins s σ H _ I h) ?_) he hpl
  rintro us s1 ⟨vs, H1, I1, r1, q1⟩
  refine ⟨I1.kIn, ?_⟩
  have r2 : Vals (vs ++ dvs) (us ++ ds) := r1.append hd
  have hl : (us ++ ds).length = ps.length := r2.length.symm.trans (F.len _ _ _ _ q1)
  apply wpAny_call
  refine codeAny_mono (F.go X.A X.stack s1 H1 ⟨us, []⟩ (us ++ ds) (vs ++ dvs) Q E hgd hr I1.env0 (hb s1 us I1.kIn hl) r2 q1) ?_
  rintro (er | (_ | _ | _ | u)) s' hq
  · exact hx pins σ H1 s1 er s' I1 hq
  · exact False.elim hq
  · exact False.elim hq
  · exact False.elim hq
  · exact I1.after hq
end

/-! ### the end of a law whose def may call repr; the script's bits are told -/
/-- the script: an object that is known and never written -/
def ScrAt (K : PySem.W.Frag) (H : Hp) (a : Addr) (ns : List Int) : Prop := (∃ o, H a = some (.frz o (.lst (ns.map V.int)))) ∨
  ∃ (o : Obj) (its : Array Value) (n : Nat), K.lookup a = some o ∧ o.cls = .type "list" ∧ o.dict = none ∧ o.data = .seq its n ∧ its.size ≤ sizeLine ∧ Vals (ns.map V.int) its.toList
theorem ScrAt.sq {K : PySem.W.Frag} {H : Hp} {a : Addr} {ns : List Int} (h : ScrAt K H a ns) : SqL K H a (ns.map V.int) := h.elim (fun h => .inl (.inr h)) .inr
theorem ScrAt.mono {K : PySem.W.Frag} {H H' : Hp} {a : Addr} {ns : List Int} (k : ∀ b o u, H b = some (.frz o u) → H' b = some (.frz o u)) (h : ScrAt K H a ns) : ScrAt K H' a ns := h.imp (fun ⟨o, e⟩ => ⟨o, k _ _ _ e⟩) id
theorem ScrAt.upd {K : PySem.W.Frag} {H : Hp} {a p : Addr} {ns : List Int} {u v : HO} (h : ScrAt K H a ns) (hp : H p = some u) (hn : ∀ o w, u ≠ .frz o w) : ScrAt K (upd H p v) a ns :=
  h.mono fun b o w e => by rw [upd_ne (ne_of e hp (Ne.symm (hn o w)))]; exact e
section
variable {P : Program} {w : World} {K : PySem.W.Frag} {mg mb : Str → Option Value} {CX : CXT} {k : Nat} {fa a : Addr} {fd : FuncData} {x : Str} {sp : Sp} {s₁ : Shared} {vs : List Value} {ns : List Int}
/-- the entry over an abstract heap that holds the script alone, or nothing -/
theorem enter_at (H : Hp) (KX : K.In s₁.heap) (n1 : s₁.heap.Ns mainGlobals mg) (n2 : s₁.heap.Ns builtinsNs mb) (bb : ∀ x : Str, x ≠ "__name__" → mb x = bootBuiltins x) (nl : s₁.heap.NoLimit) (hg : s₁.gens = #[]) (hr : Room k callerA)
    (obj : s₁.heap.get? a = some { cls := .type "list", data := .seq vs.toArray }) (hok : HOk P w H s₁.heap) (hA : ∀ b u, H b = some u → b = a ∧ K.lookup a = none ∧ ∃ o xs, u = .frz o (.lst xs))
    (F : ∀ base : Heap, K.In base → base.Ns mainGlobals mg → FnG P w K mg base CX k fa fd [x] sp) (hb : ∀ (s : Shared) (u : Value), BindsTo s fd ⟨[u], []⟩ [(x, u)]) (q : sp [.ref a] H (fun v _ => v = .bl true) fun _ _ _ => False)
    (hCX : ∀ H e s', CX [] H s₁ (fun _ _ _ => False) e s' → False) :
    codeAny (model P w) callerA (.call (.ref fa) ⟨[.ref a], []⟩) (fun r s' => r = .ok (.ret (.bool true)) ∧ OldK s₁.heap s'.heap ∧ s'.os = s₁.os ∧ AllBare s'.gens) s₁ := by
  have non : ∀ {b : Addr} {o : Obj}, s₁.heap.get? b = some o → (∀ vs' n, o.data ≠ .seq vs' n) → H b = none := fun {b o} e d => by
    rcases hq : H b with _ | u
    · rfl
    · have z := (hA b u hq).1
      subst z
      rw [obj] at e
      cases e
      exact absurd rfl (d _ _)
  have ns' : ∀ {b : Addr} {m : Str → Option Value}, s₁.heap.Ns b m → (hidT s₁.heap H).Ns b m := by
    rintro b m ⟨o, es, ep, e, d, r⟩
    exact ⟨o, es, ep, hidT_get e (non e fun v n z => by rw [d] at z; cases z), d, r⟩
  have kb : K.In (hidT s₁.heap H) := fun b o e => hidT_get (KX b o e) <| by
    rcases hq : H b with _ | u
    · rfl
    · obtain ⟨z, z2, _⟩ := hA b u hq
      rw [z, z2] at e
      cases e
  have M : Mod K mg (hidT s₁.heap H) := ⟨kb, ns' n1, ⟨mb, ns' n2, bb⟩, nl.elim fun mc h => ⟨mc, ns' h.1, h.2⟩⟩
  have e0 : Env0 P w K mg (hidT s₁.heap H) callerA [] s₁ H := ⟨rfl, M, fun b o e => of_hidT e, by rw [hidT_size]; exact Nat.le_refl _, trivial, fun b z => absurd z (by simp [frs]), hok, .of_eq hg⟩
  refine codeAny_mono ((F _ kb (ns' n1)).go callerA [] s₁ H ⟨[.ref a], []⟩ [.ref a] [.ref a] _ _ rfl hr e0 (hb s₁ _) (.cons rfl .nil) q) ?_
  rintro (er | (_ | _ | _ | u)) s' h
  · exact (hCX H er s' h).elim
  · exact False.elim h
  · exact False.elim h
  · exact False.elim h
  · obtain ⟨v, H', os, bare, un, hok', r, ev⟩ := h
    subst ev
    cases (show u = Value.bool true from r)
    refine ⟨rfl, OldK.of_keep fun b o e => ?_, os, bare⟩
    rcases hq : H b with _ | u
    · exact un.keep b o e hq (by simp [frs]) (by simp)
    · obtain ⟨_, _, ob, xs, rfl⟩ := hA b u hq
      have h1 := (hok b _ hq).1
      have h2 := (hok' b _ (un.frzs b ob _ hq)).1
      rw [e] at h1
      cases h1
      exact h2
theorem enter_law (KX : K.In s₁.heap) (n1 : s₁.heap.Ns mainGlobals mg) (n2 : s₁.heap.Ns builtinsNs mb) (bb : ∀ x : Str, x ≠ "__name__" → mb x = bootBuiltins x) (nl : s₁.heap.NoLimit) (hg : s₁.gens = #[]) (hr : Room k callerA)
    (obj : s₁.heap.get? a = some { cls := .type "list", data := .seq vs.toArray }) (hi : IntsAre vs ns) (hl : ns.length ≤ sizeLine)
    (F : ∀ base : Heap, K.In base → base.Ns mainGlobals mg → FnG P w K mg base CX k fa fd [x] sp) (hb : ∀ (s : Shared) (u : Value), BindsTo s fd ⟨[u], []⟩ [(x, u)])
    (q : ∀ H : Hp, ScrAt K H a ns → sp [.ref a] H (fun v _ => v = .bl true) fun _ _ _ => False) (hCX : ∀ H e s', CX [] H s₁ (fun _ _ _ => False) e s' → False) :
    codeAny (model P w) callerA (.call (.ref fa) ⟨[.ref a], []⟩) (fun r s' => r = .ok (.ret (.bool true)) ∧ OldK s₁.heap s'.heap ∧ s'.os = s₁.os ∧ AllBare s'.gens) s₁ := by
  have rv := vals_ints hi
  rcases hk : K.lookup a with _ | o
  · have at_a : (if a = a then some (HO.frz { cls := .type "list", data := .seq vs.toArray } (.lst (ns.map V.int))) else none) = some (HO.frz { cls := .type "list", data := .seq vs.toArray } (.lst (ns.map V.int))) := if_pos rfl
    refine enter_at (fun b => if b = a then some (.frz { cls := .type "list", data := .seq vs.toArray } (.lst (ns.map V.int))) else none) KX n1 n2 bb nl hg hr obj (fun b u z => ?_) (fun b u z => ?_) F hb (q _ (.inl ⟨_, at_a⟩)) hCX
    · by_cases hb' : b = a
      · subst hb'
        cases at_a.symm.trans z
        exact ⟨obj, by rw [List.length_map]; exact hl, vs, 0, rv, obj⟩
      · cases (if_neg hb').symm.trans z
    · by_cases hb' : b = a
      · subst hb'
        cases at_a.symm.trans z
        exact ⟨rfl, hk, _, _, rfl⟩
      · cases (if_neg hb').symm.trans z
  · have e := KX a o hk
    rw [obj] at e
    cases e
    refine enter_at (fun _ => none) KX n1 n2 bb nl hg hr obj (fun b u z => by cases z) (fun b u z => by cases z) F hb (q _ (.inr ⟨_, vs.toArray, _, hk, rfl, rfl, rfl, ?_, by simpa using rv⟩)) hCX
    rw [List.size_toArray, hi.length]
    exact hl
end
theorem walk_G {l : PySem.W.OpenLaw} {k : Nat} {q : Program} {loose : List Str} {XP : (Str → Option Value) → Heap → Prop} {YP : World → Heap → Prop} {d : DefRec} {CX : World → CXT} {x : Str} (hn : l.most = some 63) (hdf : d.params.defaults = []) (hr : Room k callerA)
    (F : ∀ (w : World) (mg : Str → Option Value) (fa : Addr) (h : Heap), YP w h → h.Ns mainGlobals mg → mg d.name = some (.ref fa) → ∃ (K : PySem.W.Frag) (fd : FuncData) (sp : Sp), K.In h ∧ (∀ (s : Shared) (u : Value), BindsTo s fd ⟨[u], []⟩ [(x, u)]) ∧
      (∀ (H : Hp) (a : Addr) (ns : List Int), ns.length ≤ 63 → (∀ z ∈ ns, Builtin.Int.intBits z ≤ 1048576) → ScrAt K H a ns → sp [.ref a] H (fun v _ => v = .bl true) fun _ _ _ => False) ∧
        ∀ base : Heap, K.In base → base.Ns mainGlobals mg → FnG l.prog w K mg base (CX w) k fa fd [x] sp)
    (hCX : ∀ (w : World) (H : Hp) (s : Shared) (e : Value) (s' : Shared), CX w [] H s (fun _ _ _ => False) e s' → False) : PySem.W.WalkO q loose XP YP l.row.toRowW d [] (fun f vs => PySem.call f vs) := by
  refine Att.attach_callB hn hdf ?_
  intro w s₀ s₁ mg mb fa o pm cd doc a vs ns G Y ho hd hcd hmg hobj hints hlen hbits hg
  obtain ⟨K, fd, sp, KX, hb, hsp, hF⟩ := F w mg fa _ Y G.T.g hmg
  exact enter_law KX G.T.g G.T.b G.T.builtins G.T.nolimit hg hr hobj hints (Nat.le_trans hlen (by decide)) hF hb (fun H hS => hsp H a ns hlen hbits hS) fun H => hCX w H s₁

/-! ### the head's look: the facts of defs and classes, one more Bool, and that sys.modules stands where it stands -/
def frY (g : Addr → Option Obj) (n : Nat) : PySem.W.Frag := He.frG g (sysModules :: He.asD g n)
/-- sys.modules is written, and is no list -/
def SysOk (K : PySem.W.Frag) : Prop := ∃ o, K.lookup sysModules = some o ∧ o.cls ≠ .type "list"
def sysB (K : PySem.W.Frag) : Bool := match K.lookup sysModules with
  | some o => !decide (o.cls = .type "list")
  | none => false
theorem sysB_ok {K : PySem.W.Frag} (h : sysB K = true) : SysOk K := by
  unfold sysB at h
  rcases e : K.lookup sysModules with _ | o
  · rw [e] at h
    cases h
  · rw [e] at h
    exact ⟨o, e, of_decide_eq_false (by simpa using h)⟩
def obY (n : Nat) (fa : List He.Fa) (fn : List He.DefD) (ex : PySem.W.Frag → Bool) (g : Addr → Option Obj) : He.AlD × Bool := (He.obsD fa fn (frY g n), ex (frY g n) && sysB (frY g n))
structure SaysY (fa : List He.Fa) (fn : List He.DefD) (ex : PySem.W.Frag → Bool) (K : PySem.W.Frag) : Prop where
  d : He.SaysD fa fn K
  e : ex K = true
  m : SysOk K
def hookY (n : Nat) (fa : List He.Fa) (fn : List He.DefD) (ex : PySem.W.Frag → Bool) : PySem.W.Hook where
  α := He.AlD × Bool
  obs := fun s => obY n fa fn ex s.heap.get?
  val := fun _ => (He.valD fn, true)
  says := fun _ h => ∃ K : PySem.W.Frag, K.In h ∧ SaysY fa fn ex K
  of := fun _ _ e => ⟨_, He.frG_in, congrArg Prod.fst e, (He.ba (congrArg Prod.snd e)).1, sysB_ok (He.ba (congrArg Prod.snd e)).2⟩
  keeps := fun _ _ _ ⟨K, hK, c⟩ k => ⟨K, PySem.W.Frag.In.keeps hK k, c⟩
theorem obY_eq {n : Nat} {fa : List He.Fa} {fn : List He.DefD} {ex : PySem.W.Frag → Bool} {g : Addr → Option Obj} {s : Shared} (h : ∀ a, g a = s.heap.get? a) : obY n fa fn ex g = (hookY n fa fn ex).obs s := by
  have e : g = s.heap.get? := funext h
  rw [e]
  rfl
end Gx

namespace Gx
open PySem PySem.Spec PyProof.Rows L2

/-! ### data of any depth, dicts too -/
def kD : Key → PyData
  | .inl i => .int i
  | .inr x => .str x
mutual
inductive Dq (K : PySem.W.Frag) (H : Hp) : V → PyData → Prop
  | non : Dq K H .non .none
  | bl (b : Bool) : Dq K H (.bl b) (.bool b)
  | int (i : Int) : Dq K H (.int i) (.int i)
  | str (x : Str) : Dq K H (.str x) (.str x)
  | lst {a : Addr} {xs : List V} {ds : List PyData} : SqL K H a xs → DqAll K H xs ds → Dq K H (.ref a) (.list ds)
  | tup {a : Addr} {xs : List V} {ds : List PyData} : SqT K H a xs → DqAll K H xs ds → Dq K H (.ref a) (.tuple ds)
  | dic {a : Addr} {kvs : List (Key × V)} {ds : List PyData} : H a = some (.dK kvs) → DqAll K H (kvs.map (·.2)) ds → Dq K H (.ref a) (.dict ((kvs.map fun p => kD p.1).zip ds))
inductive DqAll (K : PySem.W.Frag) (H : Hp) : List V → List PyData → Prop
  | nil : DqAll K H [] []
  | cons {v : V} {vs : List V} {d : PyData} {ds : List PyData} : Dq K H v d → DqAll K H vs ds → DqAll K H (v :: vs) (d :: ds)
end
theorem DqAll.length {K : PySem.W.Frag} {H : Hp} : ∀ {vs : List V} {ds : List PyData}, DqAll K H vs ds → vs.length = ds.length
  | [], _, h => by cases h; rfl
  | _ :: _, _, h => by
    cases h with
    | cons _ h2 => simp [DqAll.length h2]
theorem zip_fst {α β : Type} : ∀ {xs : List α} {ys : List β}, xs.length = ys.length → (xs.zip ys).map (·.1) = xs
  | [], _, _ => rfl
  | x :: xs, [], h => by simp at h
  | x :: xs, y :: ys, h => by simp [zip_fst (xs := xs) (ys := ys) (by simpa using h)]
theorem zip_snd {α β : Type} : ∀ {xs : List α} {ys : List β}, xs.length = ys.length → (xs.zip ys).map (·.2) = ys
  | [], ys, h => by cases ys <;> simp at h ⊢
  | x :: xs, [], h => by simp at h
  | x :: xs, y :: ys, h => by simp [zip_snd (xs := xs) (ys := ys) (by simpa using h)]
theorem reads_key {h : Heap} {k : Key} {v : Value} (e : keyIs k v = true) : Reads h v (kD k) [] := by
  rcases keyIs_shape e with ⟨i, t, rfl, rfl⟩ | ⟨x, t, rfl, rfl⟩
  · exact .int i t
  · exact .str x t
theorem reads_keys {P : Program} {w : World} {h : Heap} : ∀ {es : List DictEntry} {kvs : List (Key × Value)}, PySem.Pairs (mixKind P w) es kvs → ReadsAll h (es.map (·.key)) (kvs.map fun p => kD p.1) []
  | _, _, .nil => .nil
  | _, _, .cons e _ t => .cons (as := []) (bs := []) (reads_key e) (reads_keys t)
theorem pairs_vals {P : Program} {w : World} : ∀ {es : List DictEntry} {kvs : List (Key × Value)}, PySem.Pairs (mixKind P w) es kvs → es.map (·.val) = kvs.map (·.2)
  | _, _, .nil => rfl
  | _, _, .cons _ e t => by simp [e, pairs_vals t]
theorem kv_snd {kvs : List (Key × V)} {vs : List (Key × Value)} (r : KV kvs vs) : Vals (kvs.map (·.2)) (vs.map (·.2)) := by
  unfold KV at r
  induction r with
  | nil => exact .nil
  | cons h _ ih => exact .cons h.2 ih
theorem kv_fst {kvs : List (Key × V)} {vs : List (Key × Value)} (r : KV kvs vs) : kvs.map (fun p => kD p.1) = vs.map (fun p => kD p.1) := by
  unfold KV at r
  induction r with
  | nil => rfl
  | cons h _ ih => simp only [List.map_cons, h.1, ih]
section
variable {X : Cx} {pins : List (Addr × Obj)} {σ : L2.St} {H : Hp} {s : Shared}
theorem sys_free (I : Inv X pins σ H s) (hS : SysOk X.K) : H sysModules = none := by
  obtain ⟨o, ho, _⟩ := hS
  exact (I.bs _ o (I.ok.mod.kin _ _ ho)).2
theorem ne_sys (I : Inv X pins σ H s) (hS : SysOk X.K) {a : Addr} {o : HO} (h : H a = some o) : a ≠ sysModules := fun z => by
  rw [z, sys_free I hS] at h
  cases h
mutual
theorem Dq.reads (I : Inv X pins σ H s) (hS : SysOk X.K) : ∀ {v : V} {d : PyData} {u : Value}, Dq X.K H v d → RelV v u → ∃ as, sysModules ∉ as ∧ Reads s.heap u d as
  | _, _, _, .non, r => by cases r; exact ⟨_, by simp, .none⟩
  | _, _, _, .bl b, r => by cases r; exact ⟨_, by simp, .bool b⟩
  | _, _, _, .int i, r => by obtain ⟨t, rfl⟩ := r; exact ⟨_, by simp, .int i t⟩
  | _, _, _, .str x, r => by obtain ⟨t, rfl⟩ := r; exact ⟨_, by simp, .str x t⟩
  | _, _, _, .lst (a := a) hs ha, r => by
    cases r
    obtain ⟨its, rv, ⟨o, n, ho, hc, _, hd⟩, _⟩ := I.list hs
    obtain ⟨as, h0, hr⟩ := DqAll.reads I hS ha rv
    refine ⟨_, ?_, Reads.list ho hc hd hr⟩
    rw [List.mem_cons]
    rintro (z | z)
    · rcases hs with (q | ⟨_, q⟩) | ⟨o', _, _, q, qc, _⟩
      · exact ne_sys I hS q z.symm
      · exact ne_sys I hS q z.symm
      · rw [← z] at q
        obtain ⟨o2, q2, nl⟩ := hS
        rw [q] at q2
        cases q2
        exact nl qc
    · exact h0 z
  | _, _, _, .tup hs ha, r => by
    cases r
    obtain ⟨its, rv, ⟨o, ho, hc, n, hd⟩, _⟩ := I.tuple hs
    obtain ⟨as, h0, hr⟩ := DqAll.reads I hS ha rv
    exact ⟨_, h0, Reads.tuple ho hc hd hr⟩
  | _, _, _, .dic (a := a) (kvs := kvs) e ha, r => by
    cases r
    obtain ⟨_, hm, vs, rv, o, es, ep, ho, hx, hd, _, hp, _⟩ := (show ObjOk X.prog X.w H s.heap a (.dK kvs) from I.hok a _ e)
    obtain ⟨as, h0, hr⟩ := DqAll.reads I hS ha (kv_snd rv)
    have hl := ha.length
    rw [List.length_map] at hl
    replace hl := (List.length_map (as := kvs) (f := fun p => kD p.1)).trans hl
    refine ⟨a :: [] ++ as, ?_, Reads.dict ho hx.1 hd ?_ ?_⟩
    · intro z
      rcases List.mem_cons.mp z with z | z
      · rw [← z] at hm
        exact absurd hm (by decide)
      · exact h0 z
    · rw [zip_fst hl, kv_fst rv]
      exact reads_keys hp
    · rw [zip_snd hl, pairs_vals hp]
      exact hr
theorem DqAll.reads (I : Inv X pins σ H s) (hS : SysOk X.K) : ∀ {vs : List V} {ds : List PyData} {us : List Value}, DqAll X.K H vs ds → Vals vs us → ∃ as, sysModules ∉ as ∧ ReadsAll s.heap us ds as
  | _, _, _, .nil, r => by cases r; exact ⟨_, by simp, .nil⟩
  | _, _, _, .cons h1 h2, r => by
    cases r with
    | cons r1 r2 =>
      obtain ⟨as, n1, q1⟩ := Dq.reads I hS h1 r1
      obtain ⟨bs, n2, q2⟩ := DqAll.reads I hS h2 r2
      refine ⟨_, ?_, .cons q1 q2⟩
      rw [List.mem_append]
      exact fun z => z.elim n1 n2
end
end
end Gx

namespace Gx
open PySem PySem.Spec PyProof.Rows L2

/-! ### repr -/
section
variable {X : Cx}
def rRepr (K : PySem.W.Frag) : List V → Hp → VK → Prop := fun xs H Q => ∃ x d, xs = [x] ∧ Dq K H x d ∧ d.showable = true ∧ d.depth ≤ 60 ∧ d.shown.length ≤ sizeLine ∧ Q (.str d.shown) H
theorem call_repr (hS : SysOk X.K) (hg : X.A.guards = some []) (hu : X.A.units + 64 < cLine) : CallR X (.builtin "repr") (rRepr X.K) := by
  intro pins s σ H xs us Q I r h
  obtain ⟨x, d, rfl, hd, hs, hdep, hz, q⟩ := h
  obtain ⟨u, rfl, ru⟩ := vals1 r
  have fin : ∀ (h' : Heap) (t : Tok) (tk : Nat), (∀ b o, s.heap.get? b = some o → h'.get? b = some o) → EP X pins σ Q (.str d.shown t) { s with heap := h', toks := tk } := fun h' t tk k => ⟨.str d.shown, H, I.kept k, ⟨t, rfl⟩, q⟩
  cases hd with
  | non => cases ru; simp only [PyData.shown] at fin; exact PySem.P.repr_of_none (fin s.heap _ _ fun _ _ e => e)
  | bl b => cases ru; simp only [PyData.shown] at fin; exact PySem.P.repr_of_bool (fin s.heap _ _ fun _ _ e => e)
  | int i =>
    obtain ⟨t, rfl⟩ := ru
    simp only [PyData.shown] at fin
    exact PySem.P.repr_of_int (by simpa [PyData.showable] using hs) (fin s.heap _ _ fun _ _ e => e)
  | str y =>
    obtain ⟨t, rfl⟩ := ru
    simp only [PyData.shown] at fin hz
    exact PySem.P.repr_of_str (fin s.heap _ _ fun _ _ e => e) hz
  | @lst a ys ds h1 h2 =>
    obtain ⟨as, n, rd⟩ := Dq.reads I hS (.lst h1 h2) ru
    cases ru
    exact repr_of_reads' rd hs (fun _ => n) hg (by omega) (fun _ _ e => e) (fun h' t tk k => fin h' t tk k) hz
  | @tup a ys ds h1 h2 =>
    obtain ⟨as, n, rd⟩ := Dq.reads I hS (.tup h1 h2) ru
    cases ru
    exact repr_of_reads' rd hs (fun _ => n) hg (by omega) (fun _ _ e => e) (fun h' t tk k => fin h' t tk k) hz
  | @dic a kvs ds h1 h2 =>
    obtain ⟨as, n, rd⟩ := Dq.reads I hS (.dic h1 h2) ru
    cases ru
    exact repr_of_reads' rd hs (fun _ => n) hg (by omega) (fun _ _ e => e) (fun h' t tk k => fin h' t tk k) hz
end

/-! ### an exception of an own class as a value: made, by place and by name; asked for its class; its field read -/
/-- at a: an exception of the class at C whose one field f holds v; d is its dict -/
def ExV (H : Hp) (a C : Addr) (f : Str) (v : V) : Prop := ∃ d, H a = some (exo a C (some d)) ∧ H d = some (exd d [(f, v)])
theorem ExV.mono {H H' : Hp} {a C : Addr} {f : Str} {v : V} (k : ∀ b o, H b = some o → H' b = some o) (h : ExV H a C f v) : ExV H' a C f v := by
  obtain ⟨d, h1, h2⟩ := h
  exact ⟨d, k _ _ h1, k _ _ h2⟩
/-- the promise of such an __init__(self, f): self.f = f -/
def spExI (C : Addr) (f : Str) : Sp := fun vs H Q _ => ∃ (a : Addr) (v : V), vs = [.ref a, v] ∧ H a = some (exo a C none) ∧ ∀ d, H d = none → d ≠ a → Q .non (upd (upd H d (exd d [(f, v)])) a (exo a C (some d)))

end Gx
namespace GxE
open PySem PySem.W PySem.HandSPX PySem.Calls
section
variable {prog : Program} {w : World} {A : Around} {E : Value → Shared → Prop} {R : Result → Shared → Prop} {hp : Heap} {gn : Array GenState} {dr : Drawn} {tk : Nat} {os : OsState}
variable {nm q : Str} {C N fI : Addr} {bs bm tl : List Value} {hdct ab : Bool} {sn : List Str} {sub : List Value} {col : Option Bool} {dd : Option Addr} {k0 k1 k2 k3 k5 : Option Value} {B nI iI : String} {xs : List Value} {kw : List (Str × Value)}
/-- what BaseException.__new__ leaves: the tuple of the positional values, the exception -/
abbrev laidE (hp : Heap) (C : Addr) (xs : List Value) : Heap := (hp.push (kdv_tup xs)).push (excO C hp.objs.size)
theorem newK (F : ExcBaseFacts B nI iI tl) (eq : ∀ Y : String, bm.contains (.type Y) = tl.contains (.type Y)) (at_C : hp.get? C = some (excClassObj nm q C N bs bm hdct sn sub ab col dd k0 k1 k2 k3 k5 nI)) (fit : xs.length ≤ sizeLine)
    (post : R (.ok (.ret (.ref (hp.objs.size + 1)))) ⟨laidE hp C xs, gn, dr, tk, os⟩) : codeAny (model prog w) A (.builtin nI ⟨.ref C :: xs, kw⟩) R ⟨hp, gn, dr, tk, os⟩ := by
  have z0 := F.ends
  have zB : (Value.ref C :: bm).contains (.type B) = true := by rw [List.contains_cons, eq, F.hasB, Bool.or_true]
  have zA : (Value.ref C :: bm).contains (.type "AttributeError") = false := by rw [List.contains_cons, eq, F.noAttr]; rfl
  have zN : (Value.ref C :: bm).contains (.type "NameError") = false := by rw [List.contains_cons, eq, F.noName]; rfl
  apply codeAny_builtinAt F.entry
  unfold Builtin.«BaseException.__new__»
  refine wpAt_bind ?_
  show wpAt _ _ _ (stack >>= _) _ _ _
  refine wpAt_bind (wpAt_stack fun p below => wpAt_of_wpAny ?_)
  wp_walk
  refine wpAt_of_wpAny ?_
  rw [F.owner]
  repeat (first
    | with_reducible refine wpAny_madeHere_exc F.canon at_C ?_
    | with_reducible refine wpAny_loadPart_at at_C ?_
    | (with_reducible refine wpAny_isSubtype_exc at_C ?_; first | rw [zB] | rw [zA] | rw [zN])
    | wp_step)
  show R _ _
  rw [Heap.size_push]
  exact post
theorem checkNewK (F : ExcBaseFacts B nI iI tl) (eq : ∀ Y : String, bm.contains (.type Y) = tl.contains (.type Y)) (at_C : hp.get? C = some (excClassObj nm q C N bs bm hdct sn sub ab col dd k0 k1 k2 k3 k5 nI)) {Q : Unit → Shared → Prop}
    (post : Q () ⟨hp, gn, dr, tk, os⟩) : wpAny (model prog w) A (checkBuiltinCall nI ⟨.ref C :: xs, kw⟩) Q E ⟨hp, gn, dr, tk, os⟩ := by
  have zB : (Value.ref C :: bm).contains (.type B) = true := by rw [List.contains_cons, eq, F.hasB, Bool.or_true]
  have z0 := F.noStar
  simp only [checkBuiltinCall, F.newKind, F.newSplit, F.newRow]
  repeat (first
    | refine wpAny_loadPart_at at_C ?_
    | (refine wpAny_isSubtype_exc at_C ?_; rw [zB])
    | refine wpAny_staticBase_exc at_C ?_
    | refine wpAny_madeBy_exc at_C ?_
    | simp only [bne_self_eq_false, Bool.false_eq_true, if_false]
    | wp_step)
  exact post
end
end GxE

namespace GxE
open PySem PySem.W PySem.HandSPX PySem.Calls
section
variable {prog : Program} {w : World} {A : Around} {E : Value → Shared → Prop} {R : Result → Shared → Prop} {hp : Heap} {gn : Array GenState} {dr : Drawn} {tk : Nat} {os : OsState}
variable {nm q : Str} {C N fI : Addr} {bs bm tl : List Value} {hdct ab : Bool} {sn : List Str} {sub : List Value} {col : Option Bool} {dd : Option Addr} {k0 k1 k2 k3 k5 : Option Value} {B nI iI : String} {xs : List Value} {kw : List (Str × Value)}
theorem checkTypeK (at_C : hp.get? C = some (excClassObj nm q C N bs bm hdct sn sub ab col dd k0 k1 k2 k3 k5 nI)) {Q : Unit → Shared → Prop} (post : Q () ⟨hp, gn, dr, tk, os⟩) :
    wpAny (model prog w) A (checkBuiltinCall "type.__call__" ⟨.ref C :: xs, kw⟩) Q E ⟨hp, gn, dr, tk, os⟩ := by
  have z3 := tc_sub
  have ty : (⟨hp, gn, dr, tk, os⟩ : Shared).TypeIs (.ref C) "type" := ⟨_, at_C, rfl⟩
  simp only [checkBuiltinCall, tc_kind, tc_split]
  repeat (any_goals (first
    | assumption
    | with_reducible refine wpAny_loadPart_at at_C ?_
    | with_reducible refine wpAny_onRaise ?_
    | with_reducible refine wpAny_map ?_
    | wp_step))
theorem typeCallK (F : ExcBaseFacts B nI iI tl) (eq : ∀ Y : String, bm.contains (.type Y) = tl.contains (.type Y)) (at_C : hp.get? C = some (excClassObj nm q C N bs bm hdct sn sub ab col dd k0 k1 k2 k3 k5 nI)) (fit : xs.length ≤ sizeLine)
    (li : Looks (model prog w) hp (typeLookup (.ref C) "__init__") (some (.ref fI))) (lb : ∀ self, Looks (model prog w) hp (bindSpecial (.ref fI) self) (.ref fI, [self])) {Q : Fin → Shared → Prop}
    (run : codeAny (model prog w) A (.call (.ref fI) ⟨.ref (hp.objs.size + 1) :: xs, kw⟩)
      (fun r s' => match r with | .ok (.ret v) => v = .none ∧ Q (.done (.ret (.ref (hp.objs.size + 1)))) s' | .ok _ => False | .error e => E e s') ⟨laidE hp C xs, gn, dr, tk, os⟩) :
    wpAny (model prog w) A (Builtin.«type.__call__» ⟨.ref C :: xs, kw⟩) Q E ⟨hp, gn, dr, tk, os⟩ := by
  repeat (first
    | with_reducible refine wpAny_loadPart_at at_C ?_
    | with_reducible refine wpAny_madeBy_exc at_C ?_
    | wp_step)
  refine codeAny_call_builtin_code (Code.quiet_builtin _ F.quiet) (checkNewK F eq at_C (newK F eq at_C fit ?_))
  show wpAny _ _ _ _ _ _
  have more : ∀ b o, hp.get? b = some o → (laidE hp C xs).get? b = some o := fun b o e => Heap.get?_push_of_some _ (Heap.get?_push_of_some _ e)
  have at_C2 := more _ _ at_C
  have at_e : (laidE hp C xs).get? (hp.objs.size + 1) = some (excO C hp.objs.size) := by heap_get
  have zC : (Value.ref C :: bm).contains (.ref C) = true := by simp
  have li2 := li.keeps more
  have lb2 := (lb (.ref (hp.objs.size + 1))).keeps more
  unfold isInstance
  repeat (first
    | with_reducible refine wpAny_loadPart_at at_e ?_
    | (with_reducible refine wpAny_isSubtype_exc at_C2 ?_; rw [zC])
    | wp_step)
  show wpAny _ _ (typeLookup (.ref C) _) _ _ _
  refine li2.at (wpAny_holding (wpAny_bind (lb2.at ?_)))
  apply wpAny_bind
  apply wpAny_call
  refine codeAny_mono run ?_
  rintro (e | (_ | _ | _ | v)) s' z
  · exact z
  · exact z.elim
  · exact z.elim
  · exact z.elim
  · obtain ⟨rfl, z⟩ := z
    first
      | exact wpAny_pure (wpAny_pure z)
      | (wp_walk; exact z)
theorem callK (F : ExcBaseFacts B nI iI tl) (eq : ∀ Y : String, bm.contains (.type Y) = tl.contains (.type Y)) (at_C : hp.get? C = some (excClassObj nm q C N bs bm hdct sn sub ab col dd k0 k1 k2 k3 k5 nI)) (fit : xs.length ≤ sizeLine)
    (li : Looks (model prog w) hp (typeLookup (.ref C) "__init__") (some (.ref fI))) (lb : ∀ self, Looks (model prog w) hp (bindSpecial (.ref fI) self) (.ref fI, [self]))
    (run : codeAny (model prog w) (A.under (.builtin "type.__call__" ⟨.ref C :: xs, kw⟩)) (.call (.ref fI) ⟨.ref (hp.objs.size + 1) :: xs, kw⟩) (InitBack (hp.objs.size + 1) R) ⟨laidE hp C xs, gn, dr, tk, os⟩) :
    codeAny (model prog w) A (.call (.ref C) ⟨xs, kw⟩) R ⟨hp, gn, dr, tk, os⟩ := by
  have z1 := tc_lookup
  have z2 := tc_bind (.ref C)
  have ty : (⟨hp, gn, dr, tk, os⟩ : Shared).TypeIs (.ref C) "type" := ⟨_, at_C, rfl⟩
  apply codeAny_of_tree
  show wpAny _ _ (callAny (.ref C) _) _ _ _
  repeat (any_goals (first
    | assumption
    | with_reducible refine wpAny_loadPart_at at_C ?_
    | wp_step))
  refine ⟨rfl, codeAny_call_builtin_at (Code.quiet_builtin _ (by decide +kernel)) entry_typeCall (checkTypeK at_C (typeCallK F eq at_C fit li lb (codeAny_mono run ?_)))⟩
  rintro (e | (_ | _ | _ | v)) s' z <;> exact z
end
end GxE

namespace Gx
open PySem PySem.Spec PyProof.Rows L2
/-- C(e) of an own exception class whose __init__ keeps its one argument in the field f -/
def rExV (C : Addr) (f : Str) : List V → Hp → VK → Prop := fun vs H Q => ∃ v, vs = [v] ∧ ∀ a d, H a = none → H d = none → d ≠ a → Q (.ref a) (upd (upd H d (exd d [(f, v)])) a (exo a C (some d)))
/-- what is known of such a class -/
structure ExK (P : Program) (w : World) (K : PySem.W.Frag) (mg : Str → Option Value) (base : Heap) (x : Str) (C : Addr) (f : Str) (fI : Addr) (fd : FuncData) : Prop where
  T : OexC K C
  i : PySem.W.findIn K (.ref C) "__init__" = some (some (.ref fI))
  t : PySem.W.typeIn K (.ref fI) = some (.type "function")
  F : FnOk P w K mg base CX0 1 fI fd ["self", f] (spExI C f)
  b : Binds K fd ["self", f] []
  kb : KBn K fd ["self", f] 1 [f] (fun us ws => us ++ ws) (fun vs zs => vs ++ zs)
  g : mg x = some (.ref C)
theorem kb_one {K : PySem.W.Frag} {x qual : Str} {params : Arguments} {body : List Stmt} {scope : Scope} {kws : List (Str × V)} {f : Addr} {fd : FuncData} {ps : List Str} {n : Str} (D : FunD K x qual params body scope [] kws f fd)
    (h : ∀ (kV doc pm : Value) (an : Option Addr) (cdv ct u v : Value), bindArgs (PySem.W.fnOf x qual params body scope .none kV doc pm an cdv ct) ⟨[u], [(n, v)]⟩ = pure (ps.zip [u, v])) : KBn K fd ps 1 [n] (fun us ws => us ++ ws) (fun vs zs => vs ++ zs) := by
  obtain ⟨oc, od, dV, kV, doc, pm, an, cdv, ct, osl, rfl, lk, hcd, hD, hK⟩ := D.ex
  rcases hD with ⟨_, rfl⟩ | ⟨e, _⟩
  · refine ⟨fun s us ws _ h1 h2 => ?_, fun a b => a.append b⟩
    match us, h1 with
    | [u], _ =>
      match ws, h2 with
      | [v], _ => exact .of_eq (h kV doc pm an cdv ct u v)
  · exact absurd rfl e
section
variable {X : Cx} {x : Str} {C fI : Addr} {fd : FuncData} {f : Str} {e : Expr} {te : TE} {p pos kp : Pos}
theorem run_exV {pins : List (Addr × Obj)} {σ : L2.St} {H : Hp} {s : Shared} {Q : VK} {us : List Value} {kw : List (Str × Value)} {v : V} {u : Value} (Z : ExK X.prog X.w X.K X.mg X.base x C f fI fd) (hr : Room 2 X.A) (I : Inv X pins σ H s) (fit : us.length ≤ sizeLine) (rv : RelV v u)
    (hb : ∀ (s : Shared) (a : Addr), X.K.In s.heap → BindsTo s fd ⟨.ref a :: us, kw⟩ ((["self", f] : List Str).zip [Value.ref a, u]))
    (h : ∀ a d, H a = none → H d = none → d ≠ a → Q (.ref a) (upd (upd H d (exd d [(f, v)])) a (exo a C (some d)))) :
    wpAny (model X.prog X.w) X.A (call (.ref C) us kw) (EP X pins σ Q) X.xe s := by
  obtain ⟨nm, q, N, bs, bm, sn, sub, ab, col, dd, k0, k1, k2, k3, k5, hC, hbm⟩ := Z.T.cls
  obtain ⟨hp, g, dr, tk, os⟩ := s
  have hsz : hp.objs.size ≤ hp.objs.size + 1 := Nat.le_succ _
  have nA : H (hp.objs.size + 1) = none := I.hok.fresh hsz
  have more : ∀ b o, hp.get? b = some o → (GxE.laidE hp C us).get? b = some o := fun b o e => Heap.get?_push_of_some _ (Heap.get?_push_of_some _ e)
  have at_e : (GxE.laidE hp C us).get? (hp.objs.size + 1) = some (PySem.HandSPX.excO C hp.objs.size) := by heap_get
  have I2 : Inv X pins σ (upd H (hp.objs.size + 1) (exo (hp.objs.size + 1) C none)) ⟨GxE.laidE hp C us, g, dr, tk, os⟩ :=
    I.laid (t' := tk) (a := hp.objs.size + 1) (o := exo (hp.objs.size + 1) C none) (h' := GxE.laidE hp C us) more hsz (exo_ok at_e)
  have sp : spExI C f [.ref (hp.objs.size + 1), v] (upd H (hp.objs.size + 1) (exo (hp.objs.size + 1) C none)) (fun r H2 => r = .non ∧ Q (.ref (hp.objs.size + 1)) H2) (fun _ _ _ => False) := by
    refine ⟨_, v, rfl, upd_same, fun d hd ne => ⟨rfl, ?_⟩⟩
    have hd2 : H d = none := by rwa [upd_ne ne] at hd
    have e : upd (upd (upd H (hp.objs.size + 1) (exo (hp.objs.size + 1) C none)) d (exd d [(f, v)])) (hp.objs.size + 1) (exo (hp.objs.size + 1) C (some d)) = upd (upd H d (exd d [(f, v)])) (hp.objs.size + 1) (exo (hp.objs.size + 1) C (some d)) := by
      funext b
      unfold upd
      repeat' split
      all_goals first | rfl | contradiction
    rw [e]
    exact h _ d nA hd2 ne
  refine wpAny_call (GxE.callK F.excBase_ValueError (fun Y => PySem.HandSPX.refsVE_contains Y bm hbm) (I.kIn _ _ hC) fit (PySem.W.looks_findIn I.kIn Z.i) (fun self => PySem.W.bind_fn I.kIn self Z.t)
    (codeAny_mono (Z.F.run _ X.stack _ _ _ [Value.ref (hp.objs.size + 1), u] [.ref (hp.objs.size + 1), v] _ _ (hr.make C us kw) (I2.env0.make C us kw) (hb _ _ I2.kIn) (.cons rfl (.cons rv .nil)) sp) ?_))
  rintro (er | (_ | _ | _ | z)) s' hq
  · exact False.elim hq
  · exact False.elim hq
  · exact False.elim hq
  · exact False.elim hq
  · obtain ⟨r, H', J, rr, er, q2⟩ := I2.after hq
    subst er
    exact ⟨rr, ⟨V.ref (hp.objs.size + 1), H', J, rfl, q2⟩⟩
variable {t tk : TA} {kws : List Keyword}
theorem pe_exV (Z' : ∃ fI fd, ExK X.prog X.w X.K X.mg X.base x C f fI fd) (hr : Room 2 X.A) (hg : Gl X x) (ha : PA X [e] t) (hdb : (x == ("__debug__" : Str)) = false := by decide) (he : starEach [e] X.env = (false, eval e X.env) :: starEach [] X.env := by rfl) (hpl : (backTo pos (starEach [] X.env)).any (·.1) = false := by rfl) :
    PE X (.Call (.Name x p) [e] [] pos) (tCB (rExV C f) t) := by
  obtain ⟨fI, fd, Z⟩ := Z'
  constructor
  intro pins s σ H Q I h
  refine wpAny_Call_Name_kw (ld_glob I hg Z.g ?_ hdb)
  refine PySem.W.callWith_K (h₀ := X.base) I.ok.mod.kin Z.T.kC (thn (ha.run pos pins s σ H _ I h) ?_) he hpl
  rintro us s1 ⟨vs, H1, I1, r, v, rfl, q⟩
  obtain ⟨u, rfl, ru⟩ := vals1 r
  exact ⟨I1.kIn, run_exV Z hr I1 (by rw [sizeLine_eq]; show 1 ≤ _; omega) ru (fun s a X => Z.b s [.ref a, u] X rfl) q⟩
theorem pe_exK (Z' : ∃ fI fd, ExK X.prog X.w X.K X.mg X.base x C f fI fd) (hr : Room 2 X.A) (hg : Gl X x) (hkw : PK X kws tk) (hall : (backToKw pos (keywordEach kws X.env)).all (·.1.isSome) = true := by rfl) (hks : (backToKw pos (keywordEach kws X.env)).filterMap (·.1) = [f] := by rfl)
    (hdb : (x == ("__debug__" : Str)) = false := by decide) (hpl : ((backTo pos (starEach [] X.env)).any (·.1) || (backToKw pos (keywordEach kws X.env)).any (·.1.isNone)) = false := by rfl) :
    PE X (.Call (.Name x p) [] kws pos) (tCB (rExV C f) tk) := by
  obtain ⟨fI, fd, Z⟩ := Z'
  constructor
  intro pins s σ H Q I h
  refine wpAny_Call_Name_kw (ld_glob I hg Z.g ?_ hdb)
  refine PySem.W.callWith_KW0 (h₀ := X.base) I.ok.mod.kin Z.T.kC hall (thn (hkw.run pos pins s σ H _ I h) ?_) hpl
  rintro us s1 ⟨vs, H1, I1, r, v, rfl, q⟩
  obtain ⟨u, rfl, ru⟩ := vals1 r
  rw [hks]
  exact ⟨I1.kIn, run_exV Z hr I1 (by show 0 ≤ _; omega) ru (fun s a X => Z.kb.to s [.ref a] [u] X rfl rfl) q⟩
end

/-! ### isinstance of such a value; its field -/

/-! ### isinstance of such a value; its field -/
/-- isinstance(x, c), x such an exception -/
def rIsX (K : PySem.W.Frag) : List V → Hp → VK → Prop := fun xs H Q => ∃ (a D d : Addr) (fs : List (Str × V)) (c : V) (cv : Value) (b : Bool), xs = [.ref a, c] ∧ H a = some (exo a D (some d)) ∧ H d = some (exd d fs) ∧ ExcC K D ∧ (∀ u, RelV c u → u = cv) ∧
  PySem.W.kitOne K (.ref D) cv = some b ∧ Q (.bl b) H
theorem exo_inst {P : Program} {w : World} {H : Hp} {h : Heap} {a D d : Addr} {fs : List (Str × V)} (hok : HOk P w H h) (ha : H a = some (exo a D (some d))) (hd : H d = some (exd d fs)) :
    ∃ (ox od : Obj) (mA : Str → Option Value), PySem.W.InstAt h a ox D (some od) ∧ (∀ n, PySem.W.lookIn n od = some (mA n)) ∧ ∀ f, RelO (fs.lookup f) (mA f) := by
  obtain ⟨t, e⟩ := exo_at hok ha
  obtain ⟨mA, ns, r⟩ := exd_at hok hd
  obtain ⟨od, ho, hl⟩ := lookIn_ns ns
  exact ⟨_, od, mA, ⟨e, rfl, rfl, ho⟩, hl, r⟩
theorem call_isX {X : Cx} : CallR X (.builtin "isinstance") (rIsX X.K) := by
  intro pins s σ H xs us Q I r h
  obtain ⟨a, D, d, fs, c, cv, b, rfl, ha, hd, C, hc, e, q⟩ := h
  obtain ⟨u, z, rfl, ru, rz⟩ := vals2 r
  cases (show u = Value.ref a from ru)
  cases hc _ rz
  obtain ⟨ox, od, mA, hI, _, _⟩ := exo_inst I.hok ha hd
  obtain ⟨cd, hcd, _⟩ := PySem.W.any_some C.hd
  exact PySem.W.kia_one (PySem.W.kitx_exc (by rw [hcd]; rfl) C.hg C.hk C.hs C.ha C.hn C.ht C.hm) I.kIn hI e (fun z => nomatch z) fun tk => ⟨.bl b, H, I.kept (t' := tk) fun _ _ z => z, rfl, q⟩
/-- x.f of such an exception -/
def tExF (K : PySem.W.Frag) (f : Str) (te : TE) : TE := fun σ H Q => te σ H fun x H1 => ∃ (a D d : Addr) (fs : List (Str × V)) (v : V), x = .ref a ∧ H1 a = some (exo a D (some d)) ∧ H1 d = some (exd d fs) ∧ XfC K D ∧ PySem.W.findIn K (.ref D) f = some none ∧ fs.lookup f = some v ∧ Q v H1
theorem pe_exF {X : Cx} {K : PySem.W.Frag} {f : Str} {e : Expr} {te : TE} {pos : Pos} (hK : X.K = K) (he : PE X e te) (hb : attributeBase e f X.env (eval e X.env) = eval e X.env := by rfl) : PE X (.Attribute e f pos) (tExF K f te) := by
  subst hK
  constructor
  intro pins s σ H Q I h
  refine attr_of hb (thn (he.run pins s σ H _ I h) ?_)
  rintro u s1 ⟨x, H1, I1, rx, a, D, d, fs, v, rfl, ha, hd, T, hno, l, q⟩
  cases (show u = Value.ref a from rx)
  obtain ⟨ox, od, mA, hI, hl, r⟩ := exo_inst I1.hok ha hd
  obtain ⟨z, hz, rz⟩ := RelO.some_of (v := v) (o := mA f) (by rw [← l]; exact r f)
  exact PySem.HandSPX.exc_get I1.kIn hI T.ga T.gg T.exC (PySem.W.findObj_own T.hdC hno rfl (by rw [hl, hz])) (handed_of rz) ⟨v, H1, I1.tok _, rz, q⟩
end Gx

namespace Gx
open PySem PySem.Spec PyProof.Rows L2

theorem add_lt_pow {a b : Int} {k : Nat} (ha : a.natAbs < 2 ^ k) (hb : b.natAbs < 2 ^ k) : (a + b).natAbs < 2 ^ (k + 1) := by
  have h := Int.natAbs_add_le a b
  rw [Nat.pow_succ]
  omega
theorem bits_add {a b : Int} {k : Nat} (ha : Builtin.Int.intBits a ≤ k) (hb : Builtin.Int.intBits b ≤ k) : Builtin.Int.intBits (a + b) ≤ k + 1 := bits_of_lt (add_lt_pow (lt_of_bits ha) (lt_of_bits hb))
theorem bits_mono {a : Int} {j k : Nat} (h : Builtin.Int.intBits a ≤ j) (l : j ≤ k) : Builtin.Int.intBits a ≤ k := Nat.le_trans h l
/-! ### a def by its name, ready to be called -/
structure Ca (P : Program) (w : World) (K : PySem.W.Frag) (mg : Str → Option Value) (base : Heap) (CX : CXT) (k : Nat) (x : Str) (sp : Sp) : Prop where
  ex : ∃ f fd ps, FnOk P w K mg base CX k f fd ps sp ∧ Binds K fd ps [] ∧ mg x = some (.ref f) ∧ PySem.W.keepIn K (.ref f) = true
structure CaG (P : Program) (w : World) (K : PySem.W.Frag) (mg : Str → Option Value) (base : Heap) (CX : CXT) (k : Nat) (x : Str) (sp : Sp) : Prop where
  ex : ∃ f fd ps, FnG P w K mg base CX k f fd ps sp ∧ Binds K fd ps [] ∧ mg x = some (.ref f) ∧ PySem.W.keepIn K (.ref f) = true
section
variable {X : Cx} {CX : CXT} {k : Nat} {sp : Sp} {E : XK} {x : Str} {p pos : Pos} {e : Expr} {es : List Expr} {t : TA}
theorem pe_ca (c : Ca X.prog X.w X.K X.mg X.base CX k x sp) (hr : Room k X.A) (hg : Gl X x) (hx : Passes CX X E) (ha : PA X (e :: es) t) (hdb : (x == ("__debug__" : Str)) = false := by decide) (he : starEach (e :: es) X.env = (false, eval e X.env) :: starEach es X.env := by rfl)
    (hpl : (backTo pos (starEach es X.env)).any (·.1) = false := by rfl) : PE X (.Call (.Name x p) (e :: es) [] pos) (tCall sp [] E t) := by
  obtain ⟨f, fd, ps, F, hb, hm, hk⟩ := c.ex
  exact pe_call F hr hg hm hk hb .nil hx ha hdb he hpl
theorem pe_cg (c : CaG X.prog X.w X.K X.mg X.base CX k x sp) (hgd : X.A.guards = some []) (hr : Room k X.A) (hg : Gl X x) (hx : Passes CX X E) (ha : PA X (e :: es) t) (hdb : (x == ("__debug__" : Str)) = false := by decide)
    (he : starEach (e :: es) X.env = (false, eval e X.env) :: starEach es X.env := by rfl) (hpl : (backTo pos (starEach es X.env)).any (·.1) = false := by rfl) : PE X (.Call (.Name x p) (e :: es) [] pos) (tCall sp [] E t) := by
  obtain ⟨f, fd, ps, F, hb, hm, hk⟩ := c.ex
  exact pe_callG F hgd hr hg hm hk hb .nil hx ha hdb he hpl
end

/-! ### an own exception class over ValueError, by one Bool -/
def oexB (K : PySem.W.Frag) (C : Addr) : Bool := match K.lookup C with
  | some ⟨.type "type", _, .cls cd, sl⟩ => (match cd.mro, sl.toList with
    | .ref D :: bm, [_, _, _, _, some (.builtin n), _] => decide (D = C) && (decide (n = "ValueError.__new__") && (!cd.hasDel && (cd.hasDict && PySem.HandSPX.refsVE bm)))
    | _, _ => false)
  | _ => false
theorem oexB_ok {K : PySem.W.Frag} {C : Addr} (h : oexB K C = true) :
    ∃ nm q N bs bm sn sub ab col dd k0 k1 k2 k3 k5, K.lookup C = some (excClassObj nm q C N bs bm true sn sub ab col dd k0 k1 k2 k3 k5 "ValueError.__new__") ∧ PySem.HandSPX.refsVE bm = true := by
  unfold oexB at h
  split at h
  · rename_i dd cd sl ho
    split at h
    · rename_i D bm k0 k1 k2 k3 n k5 hm hs
      simp only [Bool.and_eq_true, decide_eq_true_eq, Bool.not_eq_true'] at h
      obtain ⟨rfl, rfl, hdel, hdct, hb⟩ := h
      obtain ⟨nm, bs, mro, ns, qn, hd, sn, sub, ab, col, del⟩ := cd
      obtain ⟨l⟩ := sl
      dsimp only at hm hdel hdct hs
      subst hm hdel hdct hs
      exact ⟨nm, qn, ns, bs, bm, sn, sub, ab, col, dd, k0, k1, k2, k3, k5, ho, hb⟩
    · cases h
  · cases h
/-- all that is asked of such a class x with its one field f -/
def exB (K : PySem.W.Frag) (x f : Str) : Bool :=
  oexB K (He.ga K x) && (decide (PySem.W.findIn K (.ref (He.ga K x)) "__setattr__" = some (some (.builtin "object.__setattr__"))) && (decide (PySem.W.subIn K (.ref (He.ga K x)) (.type "BaseException") = some true) && (decide (PySem.W.typeIn K (.ref (He.ga K x)) = some (.type "type")) &&
  (PySem.W.keepIn K (.ref (He.ga K x)) && (decide (PySem.W.findIn K (.ref (He.ga K x)) "__init__" = some (some (.ref (He.ma K (He.ga K x) "__init__")))) && (decide (PySem.W.typeIn K (.ref (He.ma K (He.ga K x) "__init__")) = some (.type "function")) &&
  (decide (PySem.W.findIn K (.ref (He.ga K x)) "__getattribute__" = some (some (.builtin "BaseException.__getattribute__"))) && (decide (PySem.W.findIn K (.ref (He.ga K x)) "__getattr__" = some none) && (PySem.W.hasDictIn K (He.ga K x) &&
  (decide (PySem.W.findIn K (.ref (He.ga K x)) "__class__" = some (some (.builtin "object.__class__"))) && (decide (PySem.W.specialIn K (.builtin "object.__class__") "__get__" = some (some (.builtin "getset_descriptor.__get__"))) && (decide (PySem.W.takesIn K (.builtin "object.__class__") = some true) &&
  (decide (PySem.W.mroIn K (He.ga K x) (.type "object") = some true) && decide (PySem.W.findIn K (.ref (He.ga K x)) f = some none))))))))))))))
structure ExB (K : PySem.W.Frag) (x f : Str) : Prop where
  T : OexC K (He.ga K x)
  i : PySem.W.findIn K (.ref (He.ga K x)) "__init__" = some (some (.ref (He.ma K (He.ga K x) "__init__")))
  t : PySem.W.typeIn K (.ref (He.ma K (He.ga K x) "__init__")) = some (.type "function")
  C : ExcC K (He.ga K x)
  X : XfC K (He.ga K x)
  no : PySem.W.findIn K (.ref (He.ga K x)) f = some none
theorem exB_ok {K : PySem.W.Frag} {x f : Str} (h : exB K x f = true) : ExB K x f := by
  simp only [exB, Bool.and_eq_true, decide_eq_true_eq] at h
  obtain ⟨h1, h2, h3, h4, h5, h6, h7, h8, h9, h10, h11, h12, h13, h14, h15⟩ := h
  exact ⟨⟨oexB_ok h1, h2, h3, h4, h5⟩, h6, h7, ⟨h8, h9, h3, h10, h11, h12, h13, h14⟩, ⟨h8, h9, h3, h10⟩, h15⟩
end Gx
namespace Gx
open PySem PySem.Spec PyProof.Rows L2
theorem upd_old {H : Hp} {a p : Addr} {o u : HO} (h : H a = some o) (hp : H p = none) : upd H p u a = some o := by rw [upd_ne (ne_of_none h hp)]; exact h
theorem Same.new {H : Hp} {p : Addr} {o : HO} (hp : H p = none) : Same H (upd H p o) := fun _ _ h => upd_old h hp
/-- a new object: the heap is from then on a letter -/
theorem laid {H H1 : Hp} {p : Addr} {o : HO} (g : upd H p o = H1) (h : H p = none) : Same H H1 ∧ H1 p = some o ∧ ∀ b, b ≠ p → H1 b = H b := by
  subst g
  exact ⟨Same.new h, upd_same, fun _ hb => upd_ne hb⟩
/-- an exception, made -/
theorem laidE {H H1 : Hp} {a d C : Addr} {f : Str} {v : V} (g : upd (upd H d (exd d [(f, v)])) a (exo a C (some d)) = H1) (ha : H a = none) (hd : H d = none) (ne : d ≠ a) : Same H H1 ∧ ExV H1 a C f v := by
  subst g
  have ha2 : upd H d (exd d [(f, v)]) a = none := by rw [upd_ne (Ne.symm ne)]; exact ha
  exact ⟨(Same.new hd).trans (Same.new ha2), d, upd_same, upd_old upd_same ha2⟩
theorem Same.over {H H' : Hp} {p : Addr} {o : HO} (k : Same H H') (h : H p = none) : Same H (upd H' p o) := fun b o' e => by
  rw [upd_ne (ne_of_none e h)]
  exact k _ _ e
theorem SqL.same {K : PySem.W.Frag} {H H' : Hp} {a : Addr} {xs : List V} (h : SqL K H a xs) (k : Same H H') : SqL K H' a xs := k.seq h
theorem SqT.same {K : PySem.W.Frag} {H H' : Hp} {a : Addr} {xs : List V} (h : SqT K H a xs) (k : Same H H') : SqT K H' a xs := by
  rcases h with (h | ⟨o, h⟩) | h
  · exact .inl (.inl (k _ _ h))
  · exact .inl (.inr ⟨o, k _ _ h⟩)
  · exact .inr h
mutual
theorem Dq.same {K : PySem.W.Frag} {H H' : Hp} (k : Same H H') : ∀ {v : V} {d : PyData}, Dq K H v d → Dq K H' v d
  | _, _, .non => .non
  | _, _, .bl b => .bl b
  | _, _, .int i => .int i
  | _, _, .str x => .str x
  | _, _, .lst h1 h2 => .lst (SqL.same h1 k) (DqAll.same k h2)
  | _, _, .tup h1 h2 => .tup (SqT.same h1 k) (DqAll.same k h2)
  | _, _, .dic h1 h2 => .dic (k _ _ h1) (DqAll.same k h2)
theorem DqAll.same {K : PySem.W.Frag} {H H' : Hp} (k : Same H H') : ∀ {vs : List V} {ds : List PyData}, DqAll K H vs ds → DqAll K H' vs ds
  | _, _, .nil => .nil
  | _, _, .cons h1 h2 => .cons (Dq.same k h1) (DqAll.same k h2)
end
theorem none_old {H H' : Hp} {p : Addr} (s : Same H H') (h : H' p = none) : H p = none := Same.free s h
end Gx

namespace K61
open PySem PySem.Spec PyProof.Rows L2 Gx
def top (i : Nat) : Stmt := PySem.Challenge.pw_dugdays_k61_errors_by_hand.main.body.getD i (.Pass ⟨0, 0, 0, 0⟩)
abbrev s_law_source : Stmt := top 12
abbrev s_law_draw : Stmt := top 13
abbrev s_law_pick : Stmt := top 14
abbrev s_law_kinds : Stmt := top 15
abbrev s_law_by_place : Stmt := top 16
abbrev s_law_by_name : Stmt := top 17
abbrev s_law_stored : Stmt := top 18
abbrev s_law : Stmt := top 19
abbrev s_BadThings_init : Stmt := inClass (top 2) 0
abbrev s_BadWeathers_init : Stmt := inClass (top 3) 0
abbrev s_BadWeather_init : Stmt := inClass (top 4) 0
abbrev s_BadPacking_init : Stmt := inClass (top 5) 0
abbrev s_NotNow_init : Stmt := inClass (top 8) 0
abbrev s_BadTrip_init : Stmt := inClass (top 6) 0
abbrev s_BadClue_init : Stmt := inClass (top 7) 0
abbrev s_TooFar_init : Stmt := inClass (top 9) 0
abbrev s_BadText_init : Stmt := inClass (top 10) 0
theorem sc_law_source : FnScope ["script", "start", "mixed", "cell", "own"] ["script", "start"] (defScope s_law_source) := ⟨rfl, rfl, rfl, by decide +kernel, rfl, by decide +kernel, by decide +kernel⟩
theorem sc_law_draw : FnScope ["source", "span", "found"] ["source", "span"] (defScope s_law_draw) := ⟨rfl, rfl, rfl, by decide +kernel, rfl, by decide +kernel, by decide +kernel⟩
theorem sc_law_pick : FnScope ["source", "some"] ["source", "some"] (defScope s_law_pick) := ⟨rfl, rfl, rfl, by decide +kernel, rfl, by decide +kernel, by decide +kernel⟩
theorem sc_law_kinds : FnScope ["error", "found"] ["error"] (defScope s_law_kinds) := ⟨rfl, rfl, rfl, by decide +kernel, rfl, by decide +kernel, by decide +kernel⟩
theorem sc_law_by_place : FnScope ["thing", "found"] ["thing"] (defScope s_law_by_place) := ⟨rfl, rfl, rfl, by decide +kernel, rfl, by decide +kernel, by decide +kernel⟩
theorem sc_law_by_name : FnScope ["thing", "found"] ["thing"] (defScope s_law_by_name) := ⟨rfl, rfl, rfl, by decide +kernel, rfl, by decide +kernel, by decide +kernel⟩
theorem sc_law_stored : FnScope ["errors", "found", "error"] ["errors"] (defScope s_law_stored) := ⟨rfl, rfl, rfl, by decide +kernel, rfl, by decide +kernel, by decide +kernel⟩
theorem sc_law : FnScope ["script", "start", "source", "some", "thing", "errors", "at", "error", "spot"] ["script"] (defScope s_law) := ⟨rfl, rfl, rfl, by decide +kernel, rfl, by decide +kernel, by decide +kernel⟩
theorem sc_BadThings_init : FnScope ["self", "value"] ["self", "value"] (defScope s_BadThings_init) := ⟨rfl, rfl, rfl, by decide +kernel, rfl, by decide +kernel, by decide +kernel⟩
theorem sc_BadWeathers_init : FnScope ["self", "value"] ["self", "value"] (defScope s_BadWeathers_init) := ⟨rfl, rfl, rfl, by decide +kernel, rfl, by decide +kernel, by decide +kernel⟩
theorem sc_BadWeather_init : FnScope ["self", "value"] ["self", "value"] (defScope s_BadWeather_init) := ⟨rfl, rfl, rfl, by decide +kernel, rfl, by decide +kernel, by decide +kernel⟩
theorem sc_BadPacking_init : FnScope ["self", "value"] ["self", "value"] (defScope s_BadPacking_init) := ⟨rfl, rfl, rfl, by decide +kernel, rfl, by decide +kernel, by decide +kernel⟩
theorem sc_NotNow_init : FnScope ["self", "value"] ["self", "value"] (defScope s_NotNow_init) := ⟨rfl, rfl, rfl, by decide +kernel, rfl, by decide +kernel, by decide +kernel⟩
theorem sc_BadTrip_init : FnScope ["self", "position"] ["self", "position"] (defScope s_BadTrip_init) := ⟨rfl, rfl, rfl, by decide +kernel, rfl, by decide +kernel, by decide +kernel⟩
theorem sc_BadClue_init : FnScope ["self", "position"] ["self", "position"] (defScope s_BadClue_init) := ⟨rfl, rfl, rfl, by decide +kernel, rfl, by decide +kernel, by decide +kernel⟩
theorem sc_TooFar_init : FnScope ["self", "count"] ["self", "count"] (defScope s_TooFar_init) := ⟨rfl, rfl, rfl, by decide +kernel, rfl, by decide +kernel, by decide +kernel⟩
theorem sc_BadText_init : FnScope ["self", "line"] ["self", "line"] (defScope s_BadText_init) := ⟨rfl, rfl, rfl, by decide +kernel, rfl, by decide +kernel, by decide +kernel⟩
def fn : List He.DefD := [⟨("_law_source", none), "_law_source", "_law_source", defArgs s_law_source, defBody s_law_source, defScope s_law_source, [], []⟩,
  ⟨("_law_draw", none), "_law_draw", "_law_draw", defArgs s_law_draw, defBody s_law_draw, defScope s_law_draw, [], []⟩,
  ⟨("_law_pick", none), "_law_pick", "_law_pick", defArgs s_law_pick, defBody s_law_pick, defScope s_law_pick, [], []⟩,
  ⟨("_law_kinds", none), "_law_kinds", "_law_kinds", defArgs s_law_kinds, defBody s_law_kinds, defScope s_law_kinds, [], []⟩,
  ⟨("_law_by_place", none), "_law_by_place", "_law_by_place", defArgs s_law_by_place, defBody s_law_by_place, defScope s_law_by_place, [], []⟩,
  ⟨("_law_by_name", none), "_law_by_name", "_law_by_name", defArgs s_law_by_name, defBody s_law_by_name, defScope s_law_by_name, [], []⟩,
  ⟨("_law_stored", none), "_law_stored", "_law_stored", defArgs s_law_stored, defBody s_law_stored, defScope s_law_stored, [], []⟩,
  ⟨("law", none), "law", "law", defArgs s_law, defBody s_law, defScope s_law, [], []⟩,
  ⟨("BadThings", some "__init__"), "__init__", "BadThings.__init__", defArgs s_BadThings_init, defBody s_BadThings_init, defScope s_BadThings_init, [], []⟩,
  ⟨("BadWeathers", some "__init__"), "__init__", "BadWeathers.__init__", defArgs s_BadWeathers_init, defBody s_BadWeathers_init, defScope s_BadWeathers_init, [], []⟩,
  ⟨("BadWeather", some "__init__"), "__init__", "BadWeather.__init__", defArgs s_BadWeather_init, defBody s_BadWeather_init, defScope s_BadWeather_init, [], []⟩,
  ⟨("BadPacking", some "__init__"), "__init__", "BadPacking.__init__", defArgs s_BadPacking_init, defBody s_BadPacking_init, defScope s_BadPacking_init, [], []⟩,
  ⟨("NotNow", some "__init__"), "__init__", "NotNow.__init__", defArgs s_NotNow_init, defBody s_NotNow_init, defScope s_NotNow_init, [], []⟩,
  ⟨("BadTrip", some "__init__"), "__init__", "BadTrip.__init__", defArgs s_BadTrip_init, defBody s_BadTrip_init, defScope s_BadTrip_init, [], []⟩,
  ⟨("BadClue", some "__init__"), "__init__", "BadClue.__init__", defArgs s_BadClue_init, defBody s_BadClue_init, defScope s_BadClue_init, [], []⟩,
  ⟨("TooFar", some "__init__"), "__init__", "TooFar.__init__", defArgs s_TooFar_init, defBody s_TooFar_init, defScope s_TooFar_init, [], []⟩,
  ⟨("BadText", some "__init__"), "__init__", "BadText.__init__", defArgs s_BadText_init, defBody s_BadText_init, defScope s_BadText_init, [], []⟩]
def fa : List He.Fa := [.glo "_law_source", .glo "_law_draw", .glo "_law_pick", .glo "_law_kinds", .glo "_law_by_place", .glo "_law_by_name", .glo "_law_stored", .glo "law", .glo "BadThings", .glo "BadWeathers", .glo "BadWeather", .glo "BadPacking", .glo "NotNow", .glo "BadTrip", .glo "BadClue", .glo "TooFar", .glo "BadText", .glo "DigError", .free "len", .free "int", .free "isinstance", .free "enumerate", .free "range", .free "max", .free "min", .free "repr", .free "list", .free "dict", .free "ValueError"]
def names : List (Str × Str) := [("BadThings", "value"), ("BadWeathers", "value"), ("BadWeather", "value"), ("BadPacking", "value"), ("NotNow", "value"), ("BadTrip", "position"), ("BadClue", "position"), ("TooFar", "count"), ("BadText", "line")]
def ex : PySem.W.Frag → Bool := fun K => (names.all fun q => exB K q.1 q.2) && (names.all fun q => (names.all fun r => decide (PySem.W.kitOne K (.ref (He.ga K q.1)) (.ref (He.ga K r.1)) = some (decide (q.1 = r.1)))) && (decide (PySem.W.kitOne K (.ref (He.ga K q.1)) (.ref (He.ga K "DigError")) = some true) && decide (PySem.W.kitOne K (.ref (He.ga K q.1)) (.type "ValueError") = some true)))
structure Facts (K : PySem.W.Frag) (mg : Str → Option Value) : Prop where
  c : SaysY fa fn ex K
  h : ∃ h : Heap, K.In h ∧ h.Ns mainGlobals mg
section
variable {K : PySem.W.Frag} {mg : Str → Option Value}
theorem Facts.sys (F : Facts K mg) : SysOk K := F.c.m
theorem g__law_source (F : Facts K mg) : mg "_law_source" = some (.ref (He.ga K "_law_source")) := F.h.elim fun _ h => He.glo_ok h.1 h.2 (F.c.d.fact 0 rfl)
theorem g__law_draw (F : Facts K mg) : mg "_law_draw" = some (.ref (He.ga K "_law_draw")) := F.h.elim fun _ h => He.glo_ok h.1 h.2 (F.c.d.fact 1 rfl)
theorem g__law_pick (F : Facts K mg) : mg "_law_pick" = some (.ref (He.ga K "_law_pick")) := F.h.elim fun _ h => He.glo_ok h.1 h.2 (F.c.d.fact 2 rfl)
theorem g__law_kinds (F : Facts K mg) : mg "_law_kinds" = some (.ref (He.ga K "_law_kinds")) := F.h.elim fun _ h => He.glo_ok h.1 h.2 (F.c.d.fact 3 rfl)
theorem g__law_by_place (F : Facts K mg) : mg "_law_by_place" = some (.ref (He.ga K "_law_by_place")) := F.h.elim fun _ h => He.glo_ok h.1 h.2 (F.c.d.fact 4 rfl)
theorem g__law_by_name (F : Facts K mg) : mg "_law_by_name" = some (.ref (He.ga K "_law_by_name")) := F.h.elim fun _ h => He.glo_ok h.1 h.2 (F.c.d.fact 5 rfl)
theorem g__law_stored (F : Facts K mg) : mg "_law_stored" = some (.ref (He.ga K "_law_stored")) := F.h.elim fun _ h => He.glo_ok h.1 h.2 (F.c.d.fact 6 rfl)
theorem g_law (F : Facts K mg) : mg "law" = some (.ref (He.ga K "law")) := F.h.elim fun _ h => He.glo_ok h.1 h.2 (F.c.d.fact 7 rfl)
theorem g_BadThings (F : Facts K mg) : mg "BadThings" = some (.ref (He.ga K "BadThings")) := F.h.elim fun _ h => He.glo_ok h.1 h.2 (F.c.d.fact 8 rfl)
theorem g_BadWeathers (F : Facts K mg) : mg "BadWeathers" = some (.ref (He.ga K "BadWeathers")) := F.h.elim fun _ h => He.glo_ok h.1 h.2 (F.c.d.fact 9 rfl)
theorem g_BadWeather (F : Facts K mg) : mg "BadWeather" = some (.ref (He.ga K "BadWeather")) := F.h.elim fun _ h => He.glo_ok h.1 h.2 (F.c.d.fact 10 rfl)
theorem g_BadPacking (F : Facts K mg) : mg "BadPacking" = some (.ref (He.ga K "BadPacking")) := F.h.elim fun _ h => He.glo_ok h.1 h.2 (F.c.d.fact 11 rfl)
theorem g_NotNow (F : Facts K mg) : mg "NotNow" = some (.ref (He.ga K "NotNow")) := F.h.elim fun _ h => He.glo_ok h.1 h.2 (F.c.d.fact 12 rfl)
theorem g_BadTrip (F : Facts K mg) : mg "BadTrip" = some (.ref (He.ga K "BadTrip")) := F.h.elim fun _ h => He.glo_ok h.1 h.2 (F.c.d.fact 13 rfl)
theorem g_BadClue (F : Facts K mg) : mg "BadClue" = some (.ref (He.ga K "BadClue")) := F.h.elim fun _ h => He.glo_ok h.1 h.2 (F.c.d.fact 14 rfl)
theorem g_TooFar (F : Facts K mg) : mg "TooFar" = some (.ref (He.ga K "TooFar")) := F.h.elim fun _ h => He.glo_ok h.1 h.2 (F.c.d.fact 15 rfl)
theorem g_BadText (F : Facts K mg) : mg "BadText" = some (.ref (He.ga K "BadText")) := F.h.elim fun _ h => He.glo_ok h.1 h.2 (F.c.d.fact 16 rfl)
theorem g_DigError (F : Facts K mg) : mg "DigError" = some (.ref (He.ga K "DigError")) := F.h.elim fun _ h => He.glo_ok h.1 h.2 (F.c.d.fact 17 rfl)
theorem z_len (F : Facts K mg) : mg "len" = none := F.h.elim fun _ h => He.free_ok h.1 h.2 (F.c.d.fact 18 rfl)
theorem z_int (F : Facts K mg) : mg "int" = none := F.h.elim fun _ h => He.free_ok h.1 h.2 (F.c.d.fact 19 rfl)
theorem z_isinstance (F : Facts K mg) : mg "isinstance" = none := F.h.elim fun _ h => He.free_ok h.1 h.2 (F.c.d.fact 20 rfl)
theorem z_enumerate (F : Facts K mg) : mg "enumerate" = none := F.h.elim fun _ h => He.free_ok h.1 h.2 (F.c.d.fact 21 rfl)
theorem z_range (F : Facts K mg) : mg "range" = none := F.h.elim fun _ h => He.free_ok h.1 h.2 (F.c.d.fact 22 rfl)
theorem z_max (F : Facts K mg) : mg "max" = none := F.h.elim fun _ h => He.free_ok h.1 h.2 (F.c.d.fact 23 rfl)
theorem z_min (F : Facts K mg) : mg "min" = none := F.h.elim fun _ h => He.free_ok h.1 h.2 (F.c.d.fact 24 rfl)
theorem z_repr (F : Facts K mg) : mg "repr" = none := F.h.elim fun _ h => He.free_ok h.1 h.2 (F.c.d.fact 25 rfl)
theorem z_list (F : Facts K mg) : mg "list" = none := F.h.elim fun _ h => He.free_ok h.1 h.2 (F.c.d.fact 26 rfl)
theorem z_dict (F : Facts K mg) : mg "dict" = none := F.h.elim fun _ h => He.free_ok h.1 h.2 (F.c.d.fact 27 rfl)
theorem z_ValueError (F : Facts K mg) : mg "ValueError" = none := F.h.elim fun _ h => He.free_ok h.1 h.2 (F.c.d.fact 28 rfl)
theorem fun_law_source (F : Facts K mg) : ∃ fd, FunD K "_law_source" "_law_source" (defArgs s_law_source) (defBody s_law_source) (defScope s_law_source) [] [] (He.ga K "_law_source") fd := F.c.d.def_ 0 rfl
theorem fun_law_draw (F : Facts K mg) : ∃ fd, FunD K "_law_draw" "_law_draw" (defArgs s_law_draw) (defBody s_law_draw) (defScope s_law_draw) [] [] (He.ga K "_law_draw") fd := F.c.d.def_ 1 rfl
theorem fun_law_pick (F : Facts K mg) : ∃ fd, FunD K "_law_pick" "_law_pick" (defArgs s_law_pick) (defBody s_law_pick) (defScope s_law_pick) [] [] (He.ga K "_law_pick") fd := F.c.d.def_ 2 rfl
theorem fun_law_kinds (F : Facts K mg) : ∃ fd, FunD K "_law_kinds" "_law_kinds" (defArgs s_law_kinds) (defBody s_law_kinds) (defScope s_law_kinds) [] [] (He.ga K "_law_kinds") fd := F.c.d.def_ 3 rfl
theorem fun_law_by_place (F : Facts K mg) : ∃ fd, FunD K "_law_by_place" "_law_by_place" (defArgs s_law_by_place) (defBody s_law_by_place) (defScope s_law_by_place) [] [] (He.ga K "_law_by_place") fd := F.c.d.def_ 4 rfl
theorem fun_law_by_name (F : Facts K mg) : ∃ fd, FunD K "_law_by_name" "_law_by_name" (defArgs s_law_by_name) (defBody s_law_by_name) (defScope s_law_by_name) [] [] (He.ga K "_law_by_name") fd := F.c.d.def_ 5 rfl
theorem fun_law_stored (F : Facts K mg) : ∃ fd, FunD K "_law_stored" "_law_stored" (defArgs s_law_stored) (defBody s_law_stored) (defScope s_law_stored) [] [] (He.ga K "_law_stored") fd := F.c.d.def_ 6 rfl
theorem fun_law (F : Facts K mg) : ∃ fd, FunD K "law" "law" (defArgs s_law) (defBody s_law) (defScope s_law) [] [] (He.ga K "law") fd := F.c.d.def_ 7 rfl
theorem fun_BadThings_init (F : Facts K mg) : ∃ fd, FunD K "__init__" "BadThings.__init__" (defArgs s_BadThings_init) (defBody s_BadThings_init) (defScope s_BadThings_init) [] [] (He.ma K (He.ga K "BadThings") "__init__") fd := F.c.d.def_ 8 rfl
theorem fun_BadWeathers_init (F : Facts K mg) : ∃ fd, FunD K "__init__" "BadWeathers.__init__" (defArgs s_BadWeathers_init) (defBody s_BadWeathers_init) (defScope s_BadWeathers_init) [] [] (He.ma K (He.ga K "BadWeathers") "__init__") fd := F.c.d.def_ 9 rfl
theorem fun_BadWeather_init (F : Facts K mg) : ∃ fd, FunD K "__init__" "BadWeather.__init__" (defArgs s_BadWeather_init) (defBody s_BadWeather_init) (defScope s_BadWeather_init) [] [] (He.ma K (He.ga K "BadWeather") "__init__") fd := F.c.d.def_ 10 rfl
theorem fun_BadPacking_init (F : Facts K mg) : ∃ fd, FunD K "__init__" "BadPacking.__init__" (defArgs s_BadPacking_init) (defBody s_BadPacking_init) (defScope s_BadPacking_init) [] [] (He.ma K (He.ga K "BadPacking") "__init__") fd := F.c.d.def_ 11 rfl
theorem fun_NotNow_init (F : Facts K mg) : ∃ fd, FunD K "__init__" "NotNow.__init__" (defArgs s_NotNow_init) (defBody s_NotNow_init) (defScope s_NotNow_init) [] [] (He.ma K (He.ga K "NotNow") "__init__") fd := F.c.d.def_ 12 rfl
theorem fun_BadTrip_init (F : Facts K mg) : ∃ fd, FunD K "__init__" "BadTrip.__init__" (defArgs s_BadTrip_init) (defBody s_BadTrip_init) (defScope s_BadTrip_init) [] [] (He.ma K (He.ga K "BadTrip") "__init__") fd := F.c.d.def_ 13 rfl
theorem fun_BadClue_init (F : Facts K mg) : ∃ fd, FunD K "__init__" "BadClue.__init__" (defArgs s_BadClue_init) (defBody s_BadClue_init) (defScope s_BadClue_init) [] [] (He.ma K (He.ga K "BadClue") "__init__") fd := F.c.d.def_ 14 rfl
theorem fun_TooFar_init (F : Facts K mg) : ∃ fd, FunD K "__init__" "TooFar.__init__" (defArgs s_TooFar_init) (defBody s_TooFar_init) (defScope s_TooFar_init) [] [] (He.ma K (He.ga K "TooFar") "__init__") fd := F.c.d.def_ 15 rfl
theorem fun_BadText_init (F : Facts K mg) : ∃ fd, FunD K "__init__" "BadText.__init__" (defArgs s_BadText_init) (defBody s_BadText_init) (defScope s_BadText_init) [] [] (He.ma K (He.ga K "BadText") "__init__") fd := F.c.d.def_ 16 rfl
end
end K61

namespace K61
open PySem PySem.Spec PyProof.Rows L2 Gx
section
variable {P : Program} {w : World} {K : PySem.W.Frag} {mg : Str → Option Value} {base : Heap}

/-- the law's source of draws: two numbers in a list -/
def SrcO (o : HO) : Prop := ∃ x y : Int, o = .lst [.int x, .int y] ∧ 0 ≤ x ∧ 0 ≤ y ∧ y < 2147483648
def SrcAt (H : Hp) (p : Addr) : Prop := ∃ x y : Int, H p = some (.lst [.int x, .int y]) ∧ 0 ≤ x ∧ 0 ≤ y ∧ y < 2147483648
def spDraw : Sp := fun vs H Q _ => ∃ (p : Addr) (k : Int), vs = [.ref p, .int k] ∧ SrcAt H p ∧ 0 < k ∧ k < 1073741824 ∧ ∀ (r : Int) (o : HO), 0 ≤ r → r < k → SrcO o → Q (.int r) (upd H p o)
def spSource (K : PySem.W.Frag) : Sp := fun vs H Q _ => ∃ (a : Addr) (ns : List Int) (st : Int), vs = [.ref a, .int st] ∧ SqL K H a (ns.map V.int) ∧ ns.length ≤ 63 ∧ (∀ z ∈ ns, Builtin.Int.intBits z ≤ 1048576) ∧ 0 ≤ st ∧ st < 1000000 ∧
  ∀ (p : Addr) (o : HO), H p = none → SrcO o → Q (.ref p) (upd H p o)
def spPick (K : PySem.W.Frag) : Sp := fun vs H Q _ => ∃ (p b : Addr) (xs : List V), vs = [.ref p, .ref b] ∧ SrcAt H p ∧ SqL K H b xs ∧ 0 < xs.length ∧ xs.length < 1000000 ∧ b ≠ p ∧ ∀ (v : V) (o : HO), v ∈ xs → SrcO o → Q v (upd H p o)

theorem exF (F : Facts K mg) {x f : Str} (h : (x, f) ∈ names) : ExB K x f := by
  have e := (He.ba F.c.e).1
  exact exB_ok (List.all_eq_true.mp e (x, f) h)
theorem kitF (F : Facts K mg) {q r : Str × Str} (h : q ∈ names) (h2 : r ∈ names) : PySem.W.kitOne K (.ref (He.ga K q.1)) (.ref (He.ga K r.1)) = some (decide (q.1 = r.1)) := by
  have e := List.all_eq_true.mp (He.ba F.c.e).2 q h
  exact of_decide_eq_true (List.all_eq_true.mp (He.ba e).1 r h2)
theorem kitD (F : Facts K mg) {q : Str × Str} (h : q ∈ names) : PySem.W.kitOne K (.ref (He.ga K q.1)) (.ref (He.ga K "DigError")) = some true ∧ PySem.W.kitOne K (.ref (He.ga K q.1)) (.type "ValueError") = some true := by
  have e := (He.ba (List.all_eq_true.mp (He.ba F.c.e).2 q h)).2
  exact ⟨of_decide_eq_true (He.ba e).1, of_decide_eq_true (He.ba e).2⟩
theorem ex_BadThings (F : Facts K mg) : ∃ fI fd, ExK P w K mg base "BadThings" (He.ga K "BadThings") "value" fI fd := by
  obtain ⟨fd, D⟩ := fun_BadThings_init F
  have B := exF F (x := "BadThings") (f := "value") (by simp [names])
  refine ⟨_, fd, B.T, B.i, B.t, D.ok sc_BadThings_init (fun vs H Q E h => ?_) (fun cdv A outer s H vs Q E hr h => ?_), D.bindsN fun _ _ _ _ _ _ us hl => match us, hl with | [_, _], _ => rfl, kb_one D (fun _ _ _ _ _ _ _ _ => rfl), g_BadThings F⟩
  · obtain ⟨_, _, rfl, _⟩ := h
    rfl
  · obtain ⟨a, v, rfl, ha, q⟩ := h
    exact ⟨_, PSs.nox (pss_one (ps_ost (pv 0) (pv 1))), _, rfl, _, rfl, a, _, rfl, B.T, B.no, .inl ⟨ha, q⟩⟩
theorem ex_BadWeathers (F : Facts K mg) : ∃ fI fd, ExK P w K mg base "BadWeathers" (He.ga K "BadWeathers") "value" fI fd := by
  obtain ⟨fd, D⟩ := fun_BadWeathers_init F
  have B := exF F (x := "BadWeathers") (f := "value") (by simp [names])
  refine ⟨_, fd, B.T, B.i, B.t, D.ok sc_BadWeathers_init (fun vs H Q E h => ?_) (fun cdv A outer s H vs Q E hr h => ?_), D.bindsN fun _ _ _ _ _ _ us hl => match us, hl with | [_, _], _ => rfl, kb_one D (fun _ _ _ _ _ _ _ _ => rfl), g_BadWeathers F⟩
  · obtain ⟨_, _, rfl, _⟩ := h
    rfl
  · obtain ⟨a, v, rfl, ha, q⟩ := h
    exact ⟨_, PSs.nox (pss_one (ps_ost (pv 0) (pv 1))), _, rfl, _, rfl, a, _, rfl, B.T, B.no, .inl ⟨ha, q⟩⟩
theorem ex_BadWeather (F : Facts K mg) : ∃ fI fd, ExK P w K mg base "BadWeather" (He.ga K "BadWeather") "value" fI fd := by
  obtain ⟨fd, D⟩ := fun_BadWeather_init F
  have B := exF F (x := "BadWeather") (f := "value") (by simp [names])
  refine ⟨_, fd, B.T, B.i, B.t, D.ok sc_BadWeather_init (fun vs H Q E h => ?_) (fun cdv A outer s H vs Q E hr h => ?_), D.bindsN fun _ _ _ _ _ _ us hl => match us, hl with | [_, _], _ => rfl, kb_one D (fun _ _ _ _ _ _ _ _ => rfl), g_BadWeather F⟩
  · obtain ⟨_, _, rfl, _⟩ := h
    rfl
  · obtain ⟨a, v, rfl, ha, q⟩ := h
    exact ⟨_, PSs.nox (pss_one (ps_ost (pv 0) (pv 1))), _, rfl, _, rfl, a, _, rfl, B.T, B.no, .inl ⟨ha, q⟩⟩
theorem ex_BadPacking (F : Facts K mg) : ∃ fI fd, ExK P w K mg base "BadPacking" (He.ga K "BadPacking") "value" fI fd := by
  obtain ⟨fd, D⟩ := fun_BadPacking_init F
  have B := exF F (x := "BadPacking") (f := "value") (by simp [names])
  refine ⟨_, fd, B.T, B.i, B.t, D.ok sc_BadPacking_init (fun vs H Q E h => ?_) (fun cdv A outer s H vs Q E hr h => ?_), D.bindsN fun _ _ _ _ _ _ us hl => match us, hl with | [_, _], _ => rfl, kb_one D (fun _ _ _ _ _ _ _ _ => rfl), g_BadPacking F⟩
  · obtain ⟨_, _, rfl, _⟩ := h
    rfl
  · obtain ⟨a, v, rfl, ha, q⟩ := h
    exact ⟨_, PSs.nox (pss_one (ps_ost (pv 0) (pv 1))), _, rfl, _, rfl, a, _, rfl, B.T, B.no, .inl ⟨ha, q⟩⟩
theorem ex_NotNow (F : Facts K mg) : ∃ fI fd, ExK P w K mg base "NotNow" (He.ga K "NotNow") "value" fI fd := by
  obtain ⟨fd, D⟩ := fun_NotNow_init F
  have B := exF F (x := "NotNow") (f := "value") (by simp [names])
  refine ⟨_, fd, B.T, B.i, B.t, D.ok sc_NotNow_init (fun vs H Q E h => ?_) (fun cdv A outer s H vs Q E hr h => ?_), D.bindsN fun _ _ _ _ _ _ us hl => match us, hl with | [_, _], _ => rfl, kb_one D (fun _ _ _ _ _ _ _ _ => rfl), g_NotNow F⟩
  · obtain ⟨_, _, rfl, _⟩ := h
    rfl
  · obtain ⟨a, v, rfl, ha, q⟩ := h
    exact ⟨_, PSs.nox (pss_one (ps_ost (pv 0) (pv 1))), _, rfl, _, rfl, a, _, rfl, B.T, B.no, .inl ⟨ha, q⟩⟩
theorem ex_BadTrip (F : Facts K mg) : ∃ fI fd, ExK P w K mg base "BadTrip" (He.ga K "BadTrip") "position" fI fd := by
  obtain ⟨fd, D⟩ := fun_BadTrip_init F
  have B := exF F (x := "BadTrip") (f := "position") (by simp [names])
  refine ⟨_, fd, B.T, B.i, B.t, D.ok sc_BadTrip_init (fun vs H Q E h => ?_) (fun cdv A outer s H vs Q E hr h => ?_), D.bindsN fun _ _ _ _ _ _ us hl => match us, hl with | [_, _], _ => rfl, kb_one D (fun _ _ _ _ _ _ _ _ => rfl), g_BadTrip F⟩
  · obtain ⟨_, _, rfl, _⟩ := h
    rfl
  · obtain ⟨a, v, rfl, ha, q⟩ := h
    exact ⟨_, PSs.nox (pss_one (ps_ost (pv 0) (pv 1))), _, rfl, _, rfl, a, _, rfl, B.T, B.no, .inl ⟨ha, q⟩⟩
theorem ex_BadClue (F : Facts K mg) : ∃ fI fd, ExK P w K mg base "BadClue" (He.ga K "BadClue") "position" fI fd := by
  obtain ⟨fd, D⟩ := fun_BadClue_init F
  have B := exF F (x := "BadClue") (f := "position") (by simp [names])
  refine ⟨_, fd, B.T, B.i, B.t, D.ok sc_BadClue_init (fun vs H Q E h => ?_) (fun cdv A outer s H vs Q E hr h => ?_), D.bindsN fun _ _ _ _ _ _ us hl => match us, hl with | [_, _], _ => rfl, kb_one D (fun _ _ _ _ _ _ _ _ => rfl), g_BadClue F⟩
  · obtain ⟨_, _, rfl, _⟩ := h
    rfl
  · obtain ⟨a, v, rfl, ha, q⟩ := h
    exact ⟨_, PSs.nox (pss_one (ps_ost (pv 0) (pv 1))), _, rfl, _, rfl, a, _, rfl, B.T, B.no, .inl ⟨ha, q⟩⟩
theorem ex_TooFar (F : Facts K mg) : ∃ fI fd, ExK P w K mg base "TooFar" (He.ga K "TooFar") "count" fI fd := by
  obtain ⟨fd, D⟩ := fun_TooFar_init F
  have B := exF F (x := "TooFar") (f := "count") (by simp [names])
  refine ⟨_, fd, B.T, B.i, B.t, D.ok sc_TooFar_init (fun vs H Q E h => ?_) (fun cdv A outer s H vs Q E hr h => ?_), D.bindsN fun _ _ _ _ _ _ us hl => match us, hl with | [_, _], _ => rfl, kb_one D (fun _ _ _ _ _ _ _ _ => rfl), g_TooFar F⟩
  · obtain ⟨_, _, rfl, _⟩ := h
    rfl
  · obtain ⟨a, v, rfl, ha, q⟩ := h
    exact ⟨_, PSs.nox (pss_one (ps_ost (pv 0) (pv 1))), _, rfl, _, rfl, a, _, rfl, B.T, B.no, .inl ⟨ha, q⟩⟩
theorem ex_BadText (F : Facts K mg) : ∃ fI fd, ExK P w K mg base "BadText" (He.ga K "BadText") "line" fI fd := by
  obtain ⟨fd, D⟩ := fun_BadText_init F
  have B := exF F (x := "BadText") (f := "line") (by simp [names])
  refine ⟨_, fd, B.T, B.i, B.t, D.ok sc_BadText_init (fun vs H Q E h => ?_) (fun cdv A outer s H vs Q E hr h => ?_), D.bindsN fun _ _ _ _ _ _ us hl => match us, hl with | [_, _], _ => rfl, kb_one D (fun _ _ _ _ _ _ _ _ => rfl), g_BadText F⟩
  · obtain ⟨_, _, rfl, _⟩ := h
    rfl
  · obtain ⟨a, v, rfl, ha, q⟩ := h
    exact ⟨_, PSs.nox (pss_one (ps_ost (pv 0) (pv 1))), _, rfl, _, rfl, a, _, rfl, B.T, B.no, .inl ⟨ha, q⟩⟩
theorem ca_law_draw (F : Facts K mg) : Ca P w K mg base CX0 1 "_law_draw" (spDraw) := by
  obtain ⟨fd, D⟩ := fun_law_draw F
  refine ⟨_, fd, ["source", "span"], D.ok sc_law_draw (fun vs H Q E h => ?_) (fun cdv A outer s H vs Q E hr h => ?_), D.bindsN fun _ _ _ _ _ _ us hl => match us, hl with | [_, _], _ => rfl, g__law_draw F, D.kp⟩
  · obtain ⟨_, _, rfl, _⟩ := h
    rfl
  · have hu := hu_of hr
    skip
    refine ⟨_, PSs.nox (pss_cons (ps_if (pt_cmpR op_ge (pe_ix ix_list (pv 0) pe_int (fun _ _ => rfl)) (pv 1) (nomark _)) (pss_cons (ps_set (i := 2) sc_law_draw.nd rfl (Or.inl rfl) (pe_op op_mod (pe_callTy call_int1 (by rfl) (z_int F) (by decide +kernel) (pa_cons (pe_ix ix_list (pv 0) pe_int (fun _ _ => rfl)) pa_nil)) (pv 1)))
    (pss_cons (ps_asg (pe_op op_fdiv (pe_ix ix_list (pv 0) pe_int (fun _ _ => rfl)) (pv 1)) (pg_sub (pv 0) pe_int set_list))
    (pss_one (ps_ret (pv 2))))) pss_nil)
    (pss_cons (ps_asg (pe_op op_mod (pe_callTy call_int1 (by rfl) (z_int F) (by decide +kernel) (pa_cons (pe_op op_add (pe_op op_mul (pe_ix ix_list (pv 0) pe_int (fun _ _ => rfl)) pe_int) pe_int) pa_nil)) pe_int) (pg_sub (pv 0) pe_int set_list))
    (pss_one (ps_ret (pe_op op_mod (pe_callTy call_int1 (by rfl) (z_int F) (by decide +kernel) (pa_cons (pe_op op_fdiv (pe_op op_mod (pe_callTy call_int1 (by rfl) (z_int F) (by decide +kernel) (pa_cons (pe_op op_powW (pe_callTy call_int1 (by rfl) (z_int F) (by decide +kernel) (pa_cons (pe_ix ix_list (pv 0) pe_int (fun _ _ => rfl)) pa_nil)) pe_int) pa_nil)) pe_int) pe_int) pa_nil)) (pv 1)))))), ?_⟩
    obtain ⟨p, k, rfl, ⟨x, y, hp, hx, hy, hy2⟩, k0, k1, q⟩ := h
    refine ⟨_, rfl, p, _, 0, .int x, rfl, rfl, SqL.of hp, rfl, _, rfl, x, k, rfl, rfl, _, rfl, ?_⟩
    refine ite2 (fun c => ?_) (fun c => ?_)
    · refine ⟨_, rfl, p, _, 0, .int x, rfl, rfl, SqL.of hp, rfl, .inl ⟨x, rfl, ?_⟩⟩
      refine ⟨_, rfl, x, k, rfl, rfl, k0, ?_⟩
      refine ⟨_, rfl, p, _, 0, .int x, rfl, rfl, SqL.of hp, rfl, _, rfl, x, k, rfl, rfl, ⟨k0, k1⟩, ?_⟩
      refine ⟨_, rfl, p, _, 0, 0, rfl, rfl, hp, rfl, ?_⟩
      exact ⟨_, rfl, q _ _ (Int.emod_nonneg _ (by omega)) (Int.emod_lt_of_pos _ k0) ⟨_, y, rfl, Int.ediv_nonneg hx (by omega), hy, hy2⟩⟩
    · have z0 := Int.emod_nonneg (y * 48271 + 7129) (by decide : (2147483647 : Int) ≠ 0)
      have z1 := Int.emod_lt_of_pos (y * 48271 + 7129) (by decide : (0 : Int) < 2147483647)
      refine ⟨_, rfl, p, _, 1, .int y, rfl, rfl, SqL.of hp, rfl, y, 48271, rfl, rfl, .inl ⟨by omega, by omega⟩, _, 7129, rfl, rfl, .inl ⟨_, rfl, _, 2147483647, rfl, rfl, by dsimp only; omega, ?_⟩⟩
      refine ⟨_, rfl, p, _, 1, 1, rfl, rfl, hp, rfl, ?_⟩
      refine ⟨_, rfl, p, _, 1, .int _, rfl, rfl, SqL.of upd_same, rfl, .inl ⟨_, rfl, _, 5, rfl, rfl, ⟨by decide, ?_⟩, .inl ⟨_, rfl, _, 1000000007, rfl, rfl, by dsimp only; omega, _, 31, rfl, rfl, ⟨by decide, by decide⟩, .inl ⟨_, rfl, _, rfl, _, k, rfl, rfl, k0, ?_⟩⟩⟩⟩
      · have b := bits_of_lt (a := (y * 48271 + 7129) % 2147483647) (k := 31) (by omega)
        omega
      · exact q _ _ (Int.emod_nonneg _ (by omega)) (Int.emod_lt_of_pos _ k0) ⟨x, _, rfl, hx, z0, by omega⟩

theorem ca_law_source (F : Facts K mg) : Ca P w K mg base CX0 1 "_law_source" (spSource K) := by
  obtain ⟨fd, D⟩ := fun_law_source F
  refine ⟨_, fd, ["script", "start"], D.ok sc_law_source (fun vs H Q E h => ?_) (fun cdv A outer s H vs Q E hr h => ?_), D.bindsN fun _ _ _ _ _ _ us hl => match us, hl with | [_, _], _ => rfl, g__law_source F, D.kp⟩
  · obtain ⟨_, _, _, rfl, _⟩ := h
    rfl
  · have hu := hu_of hr
    skip
    refine ⟨_, PSs.nox (pss_cons (ps_set (i := 2) sc_law_source.nd rfl (Or.inl rfl) (pe_op op_add pe_int (pv 1)))
    (pss_cons (ps_for PassesOwn.never rfl (pi_list (pv 0)) (pg_name (i := 3) sc_law_source.nd rfl (Or.inl rfl))
      (pss_one (ps_set (i := 2) sc_law_source.nd rfl (Or.inl rfl) (pe_op op_add (pe_op op_mod (pe_callTy call_int1 (by rfl) (z_int F) (by decide +kernel) (pa_cons (pe_op op_powW (pe_callTy call_int1 (by rfl) (z_int F) (by decide +kernel) (pa_cons (pe_op op_add (pe_op op_mul (pv 2) pe_int) (pe_callTy call_int1 (by rfl) (z_int F) (by decide +kernel) (pa_cons (pv 3) pa_nil))) pa_nil)) pe_int) pa_nil)) pe_int) pe_int))))
    (pss_cons (ps_set (i := 4) sc_law_source.nd rfl (Or.inl rfl) pe_int)
    (pss_cons (ps_if (PW.pt (pw_and (pt_cmpR op_lt (pv 1) (pe_callB call_len (by rfl) (z_len F) boot_len (pa_cons (pv 0) pa_nil)) (nomark _)) (pw_and1 (pt_cmpR op_ge (pe_ix ix_list (pv 0) (pv 1) (fun _ _ => rfl)) (pe_op op_powW pe_int pe_int) (nomark _))))) (pss_one (ps_set (i := 4) sc_law_source.nd rfl (Or.inl rfl) (pe_op op_sub (pe_ix ix_list (pv 0) (pv 1) (fun _ _ => rfl)) (pe_op op_powW pe_int pe_int)))) pss_nil)
    (pss_one (ps_ret (pe_lst (pa_cons (pv 4) (pa_cons (pv 2) pa_nil))))))))), ?_⟩
    obtain ⟨a, ns, st, rfl, hS, hl, hb, s0, s1, q⟩ := h
    refine ⟨_, rfl, 83, st, rfl, rfl, ?_⟩
    refine ⟨_, rfl, a, rfl, ⟨_, hS⟩, ?_⟩
    refine for_list (K := K) (xs := ns.map V.int) (fun i σ H' => ∃ (m : Int) (c : Option V), 0 ≤ m ∧ m < 2147483648 ∧ H' = H ∧ σ = [some (.ref a), some (.int st), some (.int m), c, none]) ⟨_, none, by omega, by omega, rfl, rfl⟩ (fun i σ H' _ p => ?_) (fun i x σ H' hx p => ?_) (fun σ H' p => ?_)
    · obtain ⟨m, c, _, _, rfl, _⟩ := p
      exact hS
    · obtain ⟨m, c, m0, m1, rfl, rfl⟩ := p
      rw [List.getElem?_map] at hx
      obtain ⟨z, hz, rfl⟩ := Option.map_eq_some_iff.mp hx
      refine ⟨_, rfl, m, 90007, rfl, rfl, .inl ⟨by omega, by omega⟩, _, rfl, .inl ⟨z, rfl, _, z, rfl, rfl, .inl ⟨_, rfl, _, 3, rfl, rfl, ⟨by decide, ?_⟩, .inl ⟨_, rfl, _, 2147483563, rfl, rfl, by dsimp only; omega, _, 1, rfl, rfl, ?_⟩⟩⟩⟩
      · have b := Gx.bits_add (bits_mono (bits_of_lt (a := m * 90007) (k := 49) (by omega)) (by decide : 49 ≤ 1048576)) (hb z (List.mem_of_getElem? hz))
        omega
      · have h0 := Int.emod_nonneg ((m * 90007 + z) ^ (3 : Int).toNat) (by decide : (2147483563 : Int) ≠ 0)
        have h1 := Int.emod_lt_of_pos ((m * 90007 + z) ^ (3 : Int).toNat) (by decide : (0 : Int) < 2147483563)
        exact ⟨_, some (.int z), by omega, by omega, rfl, rfl⟩
    · obtain ⟨m, c, m0, m1, rfl, rfl⟩ := p
      have fin : ∀ (o : Int), 0 ≤ o → ∀ l, H' l = none → Q (.ref l) (upd H' l (.lst [.int o, .int m])) := fun o h0 l hl => q _ _ hl ⟨o, m, rfl, h0, m0, m1⟩
      refine ⟨_, rfl, _, rfl, _, _, rfl, .inl ⟨_, hS, rfl⟩, st, _, rfl, rfl, _, rfl, ?_⟩
      refine ite2 (fun c => ?_) (fun c => ?_)
      · have c2 : st < (ns.map V.int).length := of_decide_eq_true c
        rw [List.length_map] at c2
        have hz : ns[st.toNat]? = some (ns[st.toNat]'(by omega)) := List.getElem?_eq_getElem _
        have hat : atI (ns.map V.int) st = some (.int (ns[st.toNat]'(by omega))) := by
          have e := atI_nat (xs := ns.map V.int) (j := st.toNat) (v := .int (ns[st.toNat]'(by omega))) (by rw [List.getElem?_map, hz]; rfl)
          rwa [Int.toNat_of_nonneg s0] at e
        refine ⟨_, rfl, _, rfl, a, _, st, _, rfl, rfl, hS, hat, 10, 18, rfl, rfl, ⟨by decide, by decide⟩, _, _, rfl, rfl, _, rfl, ?_⟩
        refine ite2 (fun d => ?_) (fun d => ?_)
        · have d2 := of_decide_eq_true d
          refine ⟨_, rfl, _, rfl, a, _, st, _, rfl, rfl, hS, hat, 10, 18, rfl, rfl, ⟨by decide, by decide⟩, _, _, rfl, rfl, ?_⟩
          exact ⟨_, rfl, _, rfl, (by show 2 ≤ sizeLine; decide), fin _ (by omega)⟩
        · exact ⟨_, rfl, _, rfl, (by show 2 ≤ sizeLine; decide), fin 0 (by omega)⟩
      · exact ⟨_, rfl, _, rfl, (by show 2 ≤ sizeLine; decide), fin 0 (by omega)⟩

theorem ca_law_pick (F : Facts K mg) : Ca P w K mg base CX0 2 "_law_pick" (spPick K) := by
  obtain ⟨fd, D⟩ := fun_law_pick F
  refine ⟨_, fd, ["source", "some"], D.ok sc_law_pick (fun vs H Q E h => ?_) (fun cdv A outer s H vs Q E hr h => ?_), D.bindsN fun _ _ _ _ _ _ us hl => match us, hl with | [_, _], _ => rfl, g__law_pick F, D.kp⟩
  · obtain ⟨_, _, _, rfl, _⟩ := h
    rfl
  · have hu := hu_of hr
    skip
    refine ⟨_, PSs.nox (pss_one (ps_ret (pe_ix ix_list (pv 1) (pe_ca (ca_law_draw F) (hr.mono (by decide)) rfl pass0 (pa_cons (pv 0) (pa_cons (pe_callB call_len (by rfl) (z_len F) boot_len (pa_cons (pv 1) pa_nil)) pa_nil))) (fun _ _ => rfl)))), ?_⟩
    obtain ⟨p, b, vs, rfl, hs, hv, h0, h1, ne, q⟩ := h
    refine ⟨_, rfl, _, rfl, _, rfl, _, _, rfl, .inl ⟨_, hv, rfl⟩, ?_⟩
    refine ⟨p, _, rfl, hs, by omega, by omega, fun r o r0 r1 ho => ?_⟩
    have e : vs[r.toNat]? = some (vs[r.toNat]'(by omega)) := List.getElem?_eq_getElem _
    have hat := atI_nat e
    rw [Int.toNat_of_nonneg r0] at hat
    have hv2 : SqL K (upd H p o) b vs := by
      rcases hv with (hv | ⟨ob, hv⟩) | hv
      · exact .inl (.inl (by rw [upd_ne ne]; exact hv))
      · exact .inl (.inr ⟨ob, by rw [upd_ne ne]; exact hv⟩)
      · exact .inr hv
    exact ⟨b, vs, r, _, rfl, rfl, hv2, hat, q _ o (List.mem_of_getElem? e) ho⟩

end
end K61

namespace K61
open PySem PySem.Spec PyProof.Rows L2 Gx
section
variable {P : Program} {w : World} {K : PySem.W.Frag} {mg : Str → Option Value} {base : Heap}

def spKinds (K : PySem.W.Frag) : Sp := fun vs H Q _ => ∃ (a : Addr) (x : Str) (d : Addr) (fs : List (Str × V)), vs = [.ref a] ∧ (∃ f, (x, f) ∈ names) ∧ H a = some (exo a (He.ga K x) (some d)) ∧ H d = some (exd d fs) ∧
  ∀ (H' : Hp) (q : Addr), Same H H' → H' q = some (.lst (names.map fun p => V.bl (decide (x = p.1)))) → H q = none → Q (.ref q) H'
/-- nine exceptions, in the sequence of the names, each with the value v in its field -/
def Nine (K : PySem.W.Frag) (H : Hp) (as : List Addr) (v : V) : Prop := Paired (fun (a : Addr) (q : Str × Str) => ExV H a (He.ga K q.1) q.2 v) as names
def spBy (K : PySem.W.Frag) : Sp := fun vs H Q _ => ∃ v : V, vs = [v] ∧ ∀ (H' : Hp) (q : Addr) (as : List Addr), Same H H' → H' q = some (.lst (as.map V.ref)) → Nine K H' as v → H q = none → Q (.ref q) H'
theorem ca_law_kinds (F : Facts K mg) : Ca P w K mg base CX0 1 "_law_kinds" (spKinds K) := by
  obtain ⟨fd, D⟩ := fun_law_kinds F
  refine ⟨_, fd, ["error"], D.ok sc_law_kinds (fun vs H Q E h => ?_) (fun cdv A outer s H vs Q E hr h => ?_), D.bindsN fun _ _ _ _ _ _ us hl => match us, hl with | [_], _ => rfl, g__law_kinds F, D.kp⟩
  · obtain ⟨_, _, _, _, rfl, _⟩ := h
    rfl
  · have hu := hu_of hr
    skip
    refine ⟨_, PSs.nox (pss_cons (ps_set (i := 1) sc_law_kinds.nd rfl (Or.inl rfl) (pe_lst (pa_cons (pe_callB call_isX (by rfl) (z_isinstance F) (by decide +kernel) (pa_cons (pv 0) (pa_cons (pe_glob (v := .ref (He.ga K "BadThings")) rfl (g_BadThings F) rfl) pa_nil))) (pa_cons (pe_callB call_isX (by rfl) (z_isinstance F) (by decide +kernel) (pa_cons (pv 0) (pa_cons (pe_glob (v := .ref (He.ga K "BadWeathers")) rfl (g_BadWeathers F) rfl) pa_nil))) (pa_cons (pe_callB call_isX (by rfl) (z_isinstance F) (by decide +kernel) (pa_cons (pv 0) (pa_cons (pe_glob (v := .ref (He.ga K "BadWeather")) rfl (g_BadWeather F) rfl) pa_nil))) pa_nil)))))
    (pss_cons (ps_set (i := 1) sc_law_kinds.nd rfl (Or.inl rfl) (pe_op op_cat (pv 1) (pe_lst (pa_cons (pe_callB call_isX (by rfl) (z_isinstance F) (by decide +kernel) (pa_cons (pv 0) (pa_cons (pe_glob (v := .ref (He.ga K "BadPacking")) rfl (g_BadPacking F) rfl) pa_nil))) (pa_cons (pe_callB call_isX (by rfl) (z_isinstance F) (by decide +kernel) (pa_cons (pv 0) (pa_cons (pe_glob (v := .ref (He.ga K "NotNow")) rfl (g_NotNow F) rfl) pa_nil))) (pa_cons (pe_callB call_isX (by rfl) (z_isinstance F) (by decide +kernel) (pa_cons (pv 0) (pa_cons (pe_glob (v := .ref (He.ga K "BadTrip")) rfl (g_BadTrip F) rfl) pa_nil))) pa_nil))))))
    (pss_one (ps_ret (pe_op op_cat (pv 1) (pe_lst (pa_cons (pe_callB call_isX (by rfl) (z_isinstance F) (by decide +kernel) (pa_cons (pv 0) (pa_cons (pe_glob (v := .ref (He.ga K "BadClue")) rfl (g_BadClue F) rfl) pa_nil))) (pa_cons (pe_callB call_isX (by rfl) (z_isinstance F) (by decide +kernel) (pa_cons (pv 0) (pa_cons (pe_glob (v := .ref (He.ga K "TooFar")) rfl (g_TooFar F) rfl) pa_nil))) (pa_cons (pe_callB call_isX (by rfl) (z_isinstance F) (by decide +kernel) (pa_cons (pv 0) (pa_cons (pe_glob (v := .ref (He.ga K "BadText")) rfl (g_BadText F) rfl) pa_nil))) pa_nil))))))))), ?_⟩
    obtain ⟨a, x, d, fs, rfl, ⟨f, hx⟩, ha, hd, q⟩ := h
    have B := exF F hx
    have S := Same.refl H
    refine ⟨_, rfl, a, _, d, fs, .ref _, .ref _, _, rfl, S _ _ ha, S _ _ hd, B.C, fun u r => r, kitF F hx (r := ("BadThings", "value")) (by simp [names]), ?_⟩
    refine ⟨_, rfl, a, _, d, fs, .ref _, .ref _, _, rfl, S _ _ ha, S _ _ hd, B.C, fun u r => r, kitF F hx (r := ("BadWeathers", "value")) (by simp [names]), ?_⟩
    refine ⟨_, rfl, a, _, d, fs, .ref _, .ref _, _, rfl, S _ _ ha, S _ _ hd, B.C, fun u r => r, kitF F hx (r := ("BadWeather", "value")) (by simp [names]), ?_⟩
    refine ⟨(by show 3 ≤ sizeLine; decide), fun p1 h1 => ?_⟩
    generalize g1 : upd _ p1 _ = H1
    obtain ⟨s1, e1, _⟩ := laid g1 h1
    replace S : Same H H1 := s1
    refine ⟨_, rfl, ?_⟩
    refine ⟨_, rfl, a, _, d, fs, .ref _, .ref _, _, rfl, S _ _ ha, S _ _ hd, B.C, fun u r => r, kitF F hx (r := ("BadPacking", "value")) (by simp [names]), ?_⟩
    refine ⟨_, rfl, a, _, d, fs, .ref _, .ref _, _, rfl, S _ _ ha, S _ _ hd, B.C, fun u r => r, kitF F hx (r := ("NotNow", "value")) (by simp [names]), ?_⟩
    refine ⟨_, rfl, a, _, d, fs, .ref _, .ref _, _, rfl, S _ _ ha, S _ _ hd, B.C, fun u r => r, kitF F hx (r := ("BadTrip", "position")) (by simp [names]), ?_⟩
    refine ⟨(by show 3 ≤ sizeLine; decide), fun p2 h2 => ?_⟩
    generalize g2 : upd _ p2 _ = H2
    obtain ⟨s2, e2, _⟩ := laid g2 h2
    refine ⟨p1, p2, _, _, rfl, rfl, s2 _ _ e1, e2, (by show 3 + 3 ≤ sizeLine; decide), fun p3 h3 => ?_⟩
    generalize g3 : upd _ p3 _ = H3
    obtain ⟨s3, e3, _⟩ := laid g3 h3
    replace S : Same H H3 := S.trans (s2.trans s3)
    refine ⟨_, rfl, ?_⟩
    refine ⟨_, rfl, a, _, d, fs, .ref _, .ref _, _, rfl, S _ _ ha, S _ _ hd, B.C, fun u r => r, kitF F hx (r := ("BadClue", "position")) (by simp [names]), ?_⟩
    refine ⟨_, rfl, a, _, d, fs, .ref _, .ref _, _, rfl, S _ _ ha, S _ _ hd, B.C, fun u r => r, kitF F hx (r := ("TooFar", "count")) (by simp [names]), ?_⟩
    refine ⟨_, rfl, a, _, d, fs, .ref _, .ref _, _, rfl, S _ _ ha, S _ _ hd, B.C, fun u r => r, kitF F hx (r := ("BadText", "line")) (by simp [names]), ?_⟩
    refine ⟨(by show 3 ≤ sizeLine; decide), fun p4 h4 => ?_⟩
    generalize g4 : upd _ p4 _ = H4
    obtain ⟨s4, e4, _⟩ := laid g4 h4
    refine ⟨p3, p4, _, _, rfl, rfl, s4 _ _ e3, e4, (by show 6 + 3 ≤ sizeLine; decide), fun p5 h5 => ?_⟩
    generalize g5 : upd _ p5 _ = H5
    obtain ⟨s5, e5, _⟩ := laid g5 h5
    exact q _ p5 (S.trans (s4.trans s5)) e5 (none_old (S.trans s4) h5)

theorem ca_law_by_place (F : Facts K mg) : Ca P w K mg base CX0 3 "_law_by_place" (spBy K) := by
  obtain ⟨fd, D⟩ := fun_law_by_place F
  refine ⟨_, fd, ["thing"], D.ok sc_law_by_place (fun vs H Q E h => ?_) (fun cdv A outer s H vs Q E hr h => ?_), D.bindsN fun _ _ _ _ _ _ us hl => match us, hl with | [_], _ => rfl, g__law_by_place F, D.kp⟩
  · obtain ⟨_, rfl, _⟩ := h
    rfl
  · have hu := hu_of hr
    have hr2 : Room 2 _ := hr
    refine ⟨_, PSs.nox (pss_cons (ps_set (i := 1) sc_law_by_place.nd rfl (Or.inl rfl) (pe_lst (pa_cons (pe_exV (ex_BadThings F) hr2 rfl (pa_cons (pv 0) pa_nil)) (pa_cons (pe_exV (ex_BadWeathers F) hr2 rfl (pa_cons (pv 0) pa_nil)) (pa_cons (pe_exV (ex_BadWeather F) hr2 rfl (pa_cons (pv 0) pa_nil)) (pa_cons (pe_exV (ex_BadPacking F) hr2 rfl (pa_cons (pv 0) pa_nil)) (pa_cons (pe_exV (ex_NotNow F) hr2 rfl (pa_cons (pv 0) pa_nil)) pa_nil)))))))
    (pss_one (ps_ret (pe_op op_cat (pv 1) (pe_lst (pa_cons (pe_exV (ex_BadTrip F) hr2 rfl (pa_cons (pv 0) pa_nil)) (pa_cons (pe_exV (ex_BadClue F) hr2 rfl (pa_cons (pv 0) pa_nil)) (pa_cons (pe_exV (ex_TooFar F) hr2 rfl (pa_cons (pv 0) pa_nil)) (pa_cons (pe_exV (ex_BadText F) hr2 rfl (pa_cons (pv 0) pa_nil)) pa_nil))))))))), ?_⟩
    obtain ⟨v, rfl, q⟩ := h
    have S0 := Same.refl H
    refine ⟨_, rfl, v, rfl, fun a1 d1 na1 nd1 ne1 => ?_⟩
    generalize g1 : upd (upd _ d1 _) a1 _ = H1
    obtain ⟨S1, E1⟩ := laidE g1 na1 nd1 ne1
    refine ⟨_, rfl, v, rfl, fun a2 d2 na2 nd2 ne2 => ?_⟩
    generalize g2 : upd (upd _ d2 _) a2 _ = H2
    obtain ⟨S2, E2⟩ := laidE g2 na2 nd2 ne2
    refine ⟨_, rfl, v, rfl, fun a3 d3 na3 nd3 ne3 => ?_⟩
    generalize g3 : upd (upd _ d3 _) a3 _ = H3
    obtain ⟨S3, E3⟩ := laidE g3 na3 nd3 ne3
    refine ⟨_, rfl, v, rfl, fun a4 d4 na4 nd4 ne4 => ?_⟩
    generalize g4 : upd (upd _ d4 _) a4 _ = H4
    obtain ⟨S4, E4⟩ := laidE g4 na4 nd4 ne4
    refine ⟨_, rfl, v, rfl, fun a5 d5 na5 nd5 ne5 => ?_⟩
    generalize g5 : upd (upd _ d5 _) a5 _ = H5
    obtain ⟨S5, E5⟩ := laidE g5 na5 nd5 ne5
    refine ⟨(by show 5 ≤ sizeLine; decide), fun p1 h6 => ?_⟩
    generalize g6 : upd _ p1 _ = H6
    obtain ⟨S6, l1, _⟩ := laid g6 h6
    refine ⟨_, rfl, ?_⟩
    refine ⟨_, rfl, v, rfl, fun a6 d6 na6 nd6 ne6 => ?_⟩
    generalize g7 : upd (upd _ d6 _) a6 _ = H7
    obtain ⟨S7, E6⟩ := laidE g7 na6 nd6 ne6
    refine ⟨_, rfl, v, rfl, fun a7 d7 na7 nd7 ne7 => ?_⟩
    generalize g8 : upd (upd _ d7 _) a7 _ = H8
    obtain ⟨S8, E7⟩ := laidE g8 na7 nd7 ne7
    refine ⟨_, rfl, v, rfl, fun a8 d8 na8 nd8 ne8 => ?_⟩
    generalize g9 : upd (upd _ d8 _) a8 _ = H9
    obtain ⟨S9, E8⟩ := laidE g9 na8 nd8 ne8
    refine ⟨_, rfl, v, rfl, fun a9 d9 na9 nd9 ne9 => ?_⟩
    generalize g10 : upd (upd _ d9 _) a9 _ = H10
    obtain ⟨S10, E9⟩ := laidE g10 na9 nd9 ne9
    refine ⟨(by show 4 ≤ sizeLine; decide), fun p2 h11 => ?_⟩
    generalize g11 : upd _ p2 _ = H11
    obtain ⟨S11, l2, _⟩ := laid g11 h11
    refine ⟨p1, p2, _, _, rfl, rfl, (S11 _ _ (S10 _ _ (S9 _ _ (S8 _ _ (S7 _ _ l1))))), l2, (by show 5 + 4 ≤ sizeLine; decide), fun p3 h12 => ?_⟩
    generalize g12 : upd _ p3 _ = H12
    obtain ⟨S12, l3, _⟩ := laid g12 h12
    exact q H12 p3 [a1, a2, a3, a4, a5, a6, a7, a8, a9] (((((((((((S1.trans S2).trans S3).trans S4).trans S5).trans S6).trans S7).trans S8).trans S9).trans S10).trans S11).trans S12) l3 (.cons (((((((((((E1.mono S2).mono S3).mono S4).mono S5).mono S6).mono S7).mono S8).mono S9).mono S10).mono S11).mono S12) (.cons ((((((((((E2.mono S3).mono S4).mono S5).mono S6).mono S7).mono S8).mono S9).mono S10).mono S11).mono S12) (.cons (((((((((E3.mono S4).mono S5).mono S6).mono S7).mono S8).mono S9).mono S10).mono S11).mono S12) (.cons ((((((((E4.mono S5).mono S6).mono S7).mono S8).mono S9).mono S10).mono S11).mono S12) (.cons (((((((E5.mono S6).mono S7).mono S8).mono S9).mono S10).mono S11).mono S12) (.cons (((((E6.mono S8).mono S9).mono S10).mono S11).mono S12) (.cons ((((E7.mono S9).mono S10).mono S11).mono S12) (.cons (((E8.mono S10).mono S11).mono S12) (.cons ((E9.mono S11).mono S12) .nil))))))))) (none_old ((((((((((S1.trans S2).trans S3).trans S4).trans S5).trans S6).trans S7).trans S8).trans S9).trans S10).trans S11) h12)

theorem ca_law_by_name (F : Facts K mg) : Ca P w K mg base CX0 3 "_law_by_name" (spBy K) := by
  obtain ⟨fd, D⟩ := fun_law_by_name F
  refine ⟨_, fd, ["thing"], D.ok sc_law_by_name (fun vs H Q E h => ?_) (fun cdv A outer s H vs Q E hr h => ?_), D.bindsN fun _ _ _ _ _ _ us hl => match us, hl with | [_], _ => rfl, g__law_by_name F, D.kp⟩
  · obtain ⟨_, rfl, _⟩ := h
    rfl
  · have hu := hu_of hr
    have hr2 : Room 2 _ := hr
    refine ⟨_, PSs.nox (pss_cons (ps_set (i := 1) sc_law_by_name.nd rfl (Or.inl rfl) (pe_lst (pa_cons (pe_exK (ex_BadThings F) hr2 rfl (pk_cons (pv 0) pk_nil)) (pa_cons (pe_exK (ex_BadWeathers F) hr2 rfl (pk_cons (pv 0) pk_nil)) (pa_cons (pe_exK (ex_BadWeather F) hr2 rfl (pk_cons (pv 0) pk_nil)) (pa_cons (pe_exK (ex_BadPacking F) hr2 rfl (pk_cons (pv 0) pk_nil)) pa_nil))))))
    (pss_cons (ps_set (i := 1) sc_law_by_name.nd rfl (Or.inl rfl) (pe_op op_cat (pv 1) (pe_lst (pa_cons (pe_exK (ex_NotNow F) hr2 rfl (pk_cons (pv 0) pk_nil)) (pa_cons (pe_exK (ex_BadTrip F) hr2 rfl (pk_cons (pv 0) pk_nil)) (pa_cons (pe_exK (ex_BadClue F) hr2 rfl (pk_cons (pv 0) pk_nil)) pa_nil))))))
    (pss_one (ps_ret (pe_op op_cat (pv 1) (pe_lst (pa_cons (pe_exK (ex_TooFar F) hr2 rfl (pk_cons (pv 0) pk_nil)) (pa_cons (pe_exK (ex_BadText F) hr2 rfl (pk_cons (pv 0) pk_nil)) pa_nil)))))))), ?_⟩
    obtain ⟨v, rfl, q⟩ := h
    have S0 := Same.refl H
    refine ⟨_, rfl, v, rfl, fun a1 d1 na1 nd1 ne1 => ?_⟩
    generalize g1 : upd (upd _ d1 _) a1 _ = H1
    obtain ⟨S1, E1⟩ := laidE g1 na1 nd1 ne1
    refine ⟨_, rfl, v, rfl, fun a2 d2 na2 nd2 ne2 => ?_⟩
    generalize g2 : upd (upd _ d2 _) a2 _ = H2
    obtain ⟨S2, E2⟩ := laidE g2 na2 nd2 ne2
    refine ⟨_, rfl, v, rfl, fun a3 d3 na3 nd3 ne3 => ?_⟩
    generalize g3 : upd (upd _ d3 _) a3 _ = H3
    obtain ⟨S3, E3⟩ := laidE g3 na3 nd3 ne3
    refine ⟨_, rfl, v, rfl, fun a4 d4 na4 nd4 ne4 => ?_⟩
    generalize g4 : upd (upd _ d4 _) a4 _ = H4
    obtain ⟨S4, E4⟩ := laidE g4 na4 nd4 ne4
    refine ⟨(by show 4 ≤ sizeLine; decide), fun p1 h5 => ?_⟩
    generalize g5 : upd _ p1 _ = H5
    obtain ⟨S5, l1, _⟩ := laid g5 h5
    refine ⟨_, rfl, ?_⟩
    refine ⟨_, rfl, v, rfl, fun a5 d5 na5 nd5 ne5 => ?_⟩
    generalize g6 : upd (upd _ d5 _) a5 _ = H6
    obtain ⟨S6, E5⟩ := laidE g6 na5 nd5 ne5
    refine ⟨_, rfl, v, rfl, fun a6 d6 na6 nd6 ne6 => ?_⟩
    generalize g7 : upd (upd _ d6 _) a6 _ = H7
    obtain ⟨S7, E6⟩ := laidE g7 na6 nd6 ne6
    refine ⟨_, rfl, v, rfl, fun a7 d7 na7 nd7 ne7 => ?_⟩
    generalize g8 : upd (upd _ d7 _) a7 _ = H8
    obtain ⟨S8, E7⟩ := laidE g8 na7 nd7 ne7
    refine ⟨(by show 3 ≤ sizeLine; decide), fun p2 h9 => ?_⟩
    generalize g9 : upd _ p2 _ = H9
    obtain ⟨S9, l2, _⟩ := laid g9 h9
    refine ⟨p1, p2, _, _, rfl, rfl, (S9 _ _ (S8 _ _ (S7 _ _ (S6 _ _ l1)))), l2, (by show 4 + 3 ≤ sizeLine; decide), fun p3 h10 => ?_⟩
    generalize g10 : upd _ p3 _ = H10
    obtain ⟨S10, l3, _⟩ := laid g10 h10
    refine ⟨_, rfl, ?_⟩
    refine ⟨_, rfl, v, rfl, fun a8 d8 na8 nd8 ne8 => ?_⟩
    generalize g11 : upd (upd _ d8 _) a8 _ = H11
    obtain ⟨S11, E8⟩ := laidE g11 na8 nd8 ne8
    refine ⟨_, rfl, v, rfl, fun a9 d9 na9 nd9 ne9 => ?_⟩
    generalize g12 : upd (upd _ d9 _) a9 _ = H12
    obtain ⟨S12, E9⟩ := laidE g12 na9 nd9 ne9
    refine ⟨(by show 2 ≤ sizeLine; decide), fun p4 h13 => ?_⟩
    generalize g13 : upd _ p4 _ = H13
    obtain ⟨S13, l4, _⟩ := laid g13 h13
    refine ⟨p3, p4, _, _, rfl, rfl, (S13 _ _ (S12 _ _ (S11 _ _ l3))), l4, (by show 7 + 2 ≤ sizeLine; decide), fun p5 h14 => ?_⟩
    generalize g14 : upd _ p5 _ = H14
    obtain ⟨S14, l5, _⟩ := laid g14 h14
    exact q H14 p5 [a1, a2, a3, a4, a5, a6, a7, a8, a9] (((((((((((((S1.trans S2).trans S3).trans S4).trans S5).trans S6).trans S7).trans S8).trans S9).trans S10).trans S11).trans S12).trans S13).trans S14) l5 (.cons (((((((((((((E1.mono S2).mono S3).mono S4).mono S5).mono S6).mono S7).mono S8).mono S9).mono S10).mono S11).mono S12).mono S13).mono S14) (.cons ((((((((((((E2.mono S3).mono S4).mono S5).mono S6).mono S7).mono S8).mono S9).mono S10).mono S11).mono S12).mono S13).mono S14) (.cons (((((((((((E3.mono S4).mono S5).mono S6).mono S7).mono S8).mono S9).mono S10).mono S11).mono S12).mono S13).mono S14) (.cons ((((((((((E4.mono S5).mono S6).mono S7).mono S8).mono S9).mono S10).mono S11).mono S12).mono S13).mono S14) (.cons ((((((((E5.mono S7).mono S8).mono S9).mono S10).mono S11).mono S12).mono S13).mono S14) (.cons (((((((E6.mono S8).mono S9).mono S10).mono S11).mono S12).mono S13).mono S14) (.cons ((((((E7.mono S9).mono S10).mono S11).mono S12).mono S13).mono S14) (.cons (((E8.mono S12).mono S13).mono S14) (.cons ((E9.mono S13).mono S14) .nil))))))))) (none_old ((((((((((((S1.trans S2).trans S3).trans S4).trans S5).trans S6).trans S7).trans S8).trans S9).trans S10).trans S11).trans S12).trans S13) h14)

end
end K61

namespace K61
open PySem PySem.Spec PyProof.Rows L2 Gx
section
variable {P : Program} {w : World} {K : PySem.W.Frag} {mg : Str → Option Value} {base : Heap}

theorem lookup1 (f : Str) (v : V) : [(f, v)].lookup f = some v := by simp [List.lookup]
def spStored (K : PySem.W.Frag) : Sp := fun vs H Q _ => ∃ (q : Addr) (as : List Addr) (v : V), vs = [.ref q] ∧ H q = some (.lst (as.map V.ref)) ∧ Nine K H as v ∧
  ∀ (H' : Hp) (p : Addr), Same H H' → H' p = some (.lst (List.replicate 9 v)) → H p = none → Q (.ref p) H'
/-- a comprehension's turns over exceptions that have v in the field f -/
theorem comp_field (F : Facts K mg) {H1 : Hp} {D p : Addr} {f : Str} {v : V} {as : List Addr} {σ : L2.St} {Qd : Hp → Prop} (e : H1 p = some (.lst (as.map V.ref))) (hD : H1 D = none) (hl : as.length ≤ 9)
    (hx : ∀ b ∈ as, ∃ x, (x, f) ∈ names ∧ ExV H1 b (He.ga K x) f v) (h2 : 2 < σ.length) (hd : ∀ H', Same H1 H' → H' D = some (.lst (List.replicate as.length v)) → Qd H') :
    ∃ W : Nat → Nat → Hp → Prop, (∃ m, W 0 m (upd H1 D (.lst []))) ∧ ∀ i m H, W i m H →
      ((Itl K p).stop i H ∧ Qd H) ∨ ((Itl K p).go i H ∧ ∃ Nx : Hp → Prop, (∀ H', Nx H' → ∃ m', m' < m ∧ W (i + 1) m' H') ∧ ∀ x H', (Itl K p).yld i H x H' → gName 2 x (wipe σ [2]) H' fun σ2 H2 => wipe σ2 [2] = wipe σ [2] ∧ tYes σ2 H2 fun b H3 =>
        if b = true then tExF K f (tVar 2) σ2 H3 fun y H4 => ∃ acc, H4 D = some (.lst acc) ∧ acc.length < sizeLine ∧ Nx (upd H4 D (.lst (acc ++ [y]))) else Nx H3) := by
  refine lc_list (K := K) (a := p) (xs := as.map V.ref) (fun i H' => Same H1 H' ∧ H' D = some (.lst (List.replicate i v))) ⟨Same.new hD, upd_same⟩ (fun i H' _ z => SqL.of (z.1 _ _ e)) (fun i x H' hx' z => ?_) (fun H' z => ?_)
  · rw [List.getElem?_map] at hx'
    obtain ⟨b, hb, rfl⟩ := Option.map_eq_some_iff.mp hx'
    have hi : i < as.length := (List.getElem?_eq_some_iff.mp hb).1
    obtain ⟨x, hn, d, h3, h4⟩ := hx b (List.mem_of_getElem? hb)
    have B := exF F hn
    refine ⟨?_, ?_⟩
    · simp [wipe, List.set_set]
    · refine ⟨.ref b, ?_, b, _, d, _, v, rfl, z.1 _ _ h3, z.1 _ _ h4, B.X, B.no, lookup1 f v, _, z.2, ?_, ?_, ?_⟩
      · rw [List.getElem?_set_self (by rw [wipe_length]; exact h2)]
      · rw [List.length_replicate]
        exact Nat.lt_of_lt_of_le (by omega : i < 10) (by decide)
      · intro b' o' hb'
        by_cases hh : b' = D
        · subst hh
          rw [hD] at hb'
          cases hb'
        · rw [upd_ne hh]
          exact z.1 _ _ hb'
      · rw [upd_same, List.replicate_succ']
  · have hh := z.2
    rw [List.length_map] at hh
    exact hd H' z.1 hh
theorem ca_law_stored (F : Facts K mg) : Ca P w K mg base CX0 1 "_law_stored" (spStored K) := by
  obtain ⟨fd, D⟩ := fun_law_stored F
  refine ⟨_, fd, ["errors"], D.ok sc_law_stored (fun vs H Q E h => ?_) (fun cdv A outer s H vs Q E hr h => ?_), D.bindsN fun _ _ _ _ _ _ us hl => match us, hl with | [_], _ => rfl, g__law_stored F, D.kp⟩
  · obtain ⟨_, _, _, rfl, _⟩ := h
    rfl
  · have hu := hu_of hr
    skip
    refine ⟨_, PSs.nox (pss_cons (ps_set (i := 1) sc_law_stored.nd rfl (Or.inl rfl) (pe_op op_cat (pe_lc (own := [("error", 2)]) (g := gName 2) rfl sc_law_stored.nd (pi_list (pe_slice sl_list (pv 0) po_none (po_some pe_int))) (blkOk_by (own := [("error", 2)]) (N := ["errors", "found", "error"]) (sc := defScope s_law_stored) (by decide +kernel)) (fun _ _ _ _ _ => (pg_name (i := 2) sc_law_stored.nd rfl (Or.inl rfl))) (fun _ _ _ _ _ => pts_nil) (fun _ _ _ _ _ => (pe_exF (K := K) rfl (pv 2)))) (pe_lc (own := [("error", 2)]) (g := gName 2) rfl sc_law_stored.nd (pi_list (pe_slice sl_list (pv 0) (po_some pe_int) (po_some pe_int))) (blkOk_by (own := [("error", 2)]) (N := ["errors", "found", "error"]) (sc := defScope s_law_stored) (by decide +kernel)) (fun _ _ _ _ _ => (pg_name (i := 2) sc_law_stored.nd rfl (Or.inl rfl))) (fun _ _ _ _ _ => pts_nil) (fun _ _ _ _ _ => (pe_exF (K := K) rfl (pv 2))))))
    (pss_one (ps_ret (pe_op op_cat (pv 1) (pe_lst (pa_cons (pe_exF (K := K) rfl (pe_ix ix_list (pv 0) pe_int (fun _ _ => rfl))) (pa_cons (pe_exF (K := K) rfl (pe_ix ix_list (pv 0) pe_int (fun _ _ => rfl))) pa_nil))))))), ?_⟩
    obtain ⟨q, as, v, rfl, hq, N, k⟩ := h
    unfold Nine names at N
    obtain _ | ⟨E1, N⟩ := N
    obtain _ | ⟨E2, N⟩ := N
    obtain _ | ⟨E3, N⟩ := N
    obtain _ | ⟨E4, N⟩ := N
    obtain _ | ⟨E5, N⟩ := N
    obtain _ | ⟨E6, N⟩ := N
    obtain _ | ⟨E7, N⟩ := N
    obtain _ | ⟨E8, N⟩ := N
    obtain _ | ⟨E9, N⟩ := N
    cases N
    rename_i a1 a2 a3 a4 a5 a6 a7 a8 a9
    refine ⟨_, rfl, 5, rfl, q, _, rfl, SqL.of hq, fun p1 h1 => ?_⟩
    generalize g1 : upd _ p1 _ = H1
    obtain ⟨s1, e1, _⟩ := laid g1 h1
    refine ⟨p1, rfl, ⟨_, SqL.of e1⟩, fun D1 hD1 => ?_⟩
    refine comp_field F (as := [a1, a2, a3, a4, a5]) (v := v) e1 hD1 (by simp) ?_ (by show 2 < 3; decide) (fun H2 s2 e2 => ?_)
    · intro b hb
      simp only [List.mem_cons, List.not_mem_nil, or_false] at hb
      rcases hb with rfl | rfl | rfl | rfl | rfl
      · exact ⟨"BadThings", by simp [names], E1.mono s1⟩
      · exact ⟨"BadWeathers", by simp [names], E2.mono s1⟩
      · exact ⟨"BadWeather", by simp [names], E3.mono s1⟩
      · exact ⟨"BadPacking", by simp [names], E4.mono s1⟩
      · exact ⟨"NotNow", by simp [names], E5.mono s1⟩
    have t2 := s1.trans s2
    refine ⟨_, rfl, 5, rfl, 7, rfl, q, _, rfl, SqL.of (t2 _ _ hq), fun p3 h3 => ?_⟩
    generalize g3 : upd _ p3 _ = H3
    obtain ⟨s3, e3, _⟩ := laid g3 h3
    refine ⟨p3, rfl, ⟨_, SqL.of e3⟩, fun D2 hD2 => ?_⟩
    refine comp_field F (as := [a6, a7]) (v := v) e3 hD2 (by simp) ?_ (by show 2 < 3; decide) (fun H4 s4 e4 => ?_)
    · intro b hb
      simp only [List.mem_cons, List.not_mem_nil, or_false] at hb
      rcases hb with rfl | rfl
      · exact ⟨"BadTrip", by simp [names], E6.mono (t2.trans s3)⟩
      · exact ⟨"BadClue", by simp [names], E7.mono (t2.trans s3)⟩
    have t4 := t2.trans (s3.trans s4)
    refine ⟨D1, D2, _, _, rfl, rfl, s4 _ _ (s3 _ _ e2), e4, (by simp; decide), fun p5 h5 => ?_⟩
    generalize g5 : upd _ p5 _ = H5
    obtain ⟨s5, e5, _⟩ := laid g5 h5
    have t5 := t4.trans s5
    obtain ⟨d8, x8, y8⟩ := E8.mono t5
    obtain ⟨d9, x9, y9⟩ := E9.mono t5
    have B8 := exF F (x := "TooFar") (f := "count") (by simp [names])
    have B9 := exF F (x := "BadText") (f := "line") (by simp [names])
    refine ⟨_, rfl, _, rfl, q, _, 7, _, rfl, rfl, SqL.of (t5 _ _ hq), rfl, a8, _, d8, _, v, rfl, x8, y8, B8.X, B8.no, lookup1 _ v, _, rfl, q, _, 8, _, rfl, rfl, SqL.of (t5 _ _ hq), rfl, a9, _, d9, _, v, rfl, x9, y9, B9.X, B9.no, lookup1 _ v, (by show 2 ≤ sizeLine; decide), fun p6 h6 => ?_⟩
    generalize g6 : upd _ p6 _ = H6
    obtain ⟨s6, e6, _⟩ := laid g6 h6
    refine ⟨p5, p6, _, _, rfl, rfl, s6 _ _ e5, e6, (by simp; decide), fun p7 h7 => ?_⟩
    generalize g7 : upd _ p7 _ = H7
    obtain ⟨s7, e7, _⟩ := laid g7 h7
    exact k H7 p7 (t5.trans (s6.trans s7)) e7 (none_old (t5.trans s6) h7)

end
end K61

namespace K61
open PySem PySem.Spec PyProof.Rows L2 Gx
section
variable {P : Program} {w : World} {K : PySem.W.Frag} {mg : Str → Option Value} {base : Heap}

/-! ### the law: what may be drawn, and what it is as data -/
def zs (k : Nat) : List V := List.replicate k (.int 0)
def zd (k : Nat) : List PyData := List.replicate k (.int 0)
def ALL : List PyData := [.none, .str "x", .bool true, .int (-3), .tuple [.int 1], .dict [(.str "a", .int 1)], .dict [(.str "a", .int 1), (.str "late", .int 0)]] ++ (List.range 60).map (fun n => .int (n : Nat)) ++
  (List.range 5).map (fun k => .list (.int 5 :: zd k)) ++ (List.range 5).map (fun k => .list (.str "a" :: .none :: zd k))
def okD (d : PyData) : Bool := (PyData.list (List.replicate 9 d)).showable && (decide ((PyData.list (List.replicate 9 d)).depth ≤ 60) && decide ((PyData.list (List.replicate 9 d)).shown.length ≤ 100000))
theorem all_ok : ∀ d ∈ ALL, okD d = true := by
  have h : ALL.all okD = true := by decide +kernel
  exact fun d hd => List.all_eq_true.mp h d hd
structure Stt (K : PySem.W.Frag) (H : Hp) (a : Addr) (ns : List Int) (p l1 l2 d t : Addr) (c : Nat) : Prop where
  scr : ScrAt K H a ns
  src : SrcAt H p
  e1 : ∃ k, k ≤ c ∧ H l1 = some (.lst (.int 5 :: zs k))
  e2 : ∃ k, k ≤ c ∧ H l2 = some (.lst (.str "a" :: .non :: zs k))
  ed : H d = some (.dK [(.inr "a", .int 1)]) ∨ H d = some (.dK [(.inr "a", .int 1), (.inr "late", .int 0)])
  et : H t = some (.tup [.int 1])
  n1 : l1 ≠ p
  n2 : l2 ≠ p
  n12 : l1 ≠ l2
def THS (l1 l2 d t : Addr) (n : Int) : List V := [.ref l1, .ref l2, .ref d, .non, .str "x", .ref t, .bl true, .int (-3), .int n]
section
variable {H H' : Hp} {a p l1 l2 d t : Addr} {ns : List Int} {c c' : Nat}
theorem SrcAt.of {o : HO} (h : SrcO o) (e : H p = some o) : SrcAt H p := by
  obtain ⟨x, y, rfl, r⟩ := h
  exact ⟨x, y, e, r⟩
theorem Stt.same (S : Stt K H a ns p l1 l2 d t c) (k : Same H H') : Stt K H' a ns p l1 l2 d t c := by
  obtain ⟨h1, ⟨x, y, h2, r⟩, ⟨k1, i1, h3⟩, ⟨k2, i2, h4⟩, h5, h6, n1, n2, n3⟩ := S
  exact ⟨h1.mono fun b o u => k b _, ⟨x, y, k _ _ h2, r⟩, ⟨k1, i1, k _ _ h3⟩, ⟨k2, i2, k _ _ h4⟩, h5.imp (k _ _) (k _ _), k _ _ h6, n1, n2, n3⟩
theorem Stt.le (S : Stt K H a ns p l1 l2 d t c) (h : c ≤ c') : Stt K H a ns p l1 l2 d t c' := by
  obtain ⟨h1, h2, ⟨k1, i1, h3⟩, ⟨k2, i2, h4⟩, h5, h6, n1, n2, n3⟩ := S
  exact ⟨h1, h2, ⟨k1, Nat.le_trans i1 h, h3⟩, ⟨k2, Nat.le_trans i2 h, h4⟩, h5, h6, n1, n2, n3⟩
theorem Stt.nd (S : Stt K H a ns p l1 l2 d t c) : d ≠ p ∧ d ≠ l1 ∧ d ≠ l2 ∧ t ≠ p ∧ t ≠ l1 ∧ t ≠ l2 ∧ t ≠ d := by
  obtain ⟨h1, ⟨x, y, h2, r⟩, ⟨k1, i1, h3⟩, ⟨k2, i2, h4⟩, h5, h6, n1, n2, n3⟩ := S
  rcases h5 with h5 | h5
  · exact ⟨ne_of h5 h2 (by simp), ne_of h5 h3 (by simp), ne_of h5 h4 (by simp), ne_of h6 h2 (by simp), ne_of h6 h3 (by simp), ne_of h6 h4 (by simp), ne_of h6 h5 (by simp)⟩
  · exact ⟨ne_of h5 h2 (by simp), ne_of h5 h3 (by simp), ne_of h5 h4 (by simp), ne_of h6 h2 (by simp), ne_of h6 h3 (by simp), ne_of h6 h4 (by simp), ne_of h6 h5 (by simp)⟩
theorem Stt.draw (S : Stt K H a ns p l1 l2 d t c) {o : HO} (ho : SrcO o) : Stt K (upd H p o) a ns p l1 l2 d t c := by
  obtain ⟨m1, m2, m3, m4, m5, m6, m7⟩ := S.nd
  obtain ⟨h1, ⟨x, y, h2, r⟩, ⟨k1, i1, h3⟩, ⟨k2, i2, h4⟩, h5, h6, n1, n2, n3⟩ := S
  refine ⟨h1.upd h2 (by simp), .of ho upd_same, ⟨k1, i1, by rw [upd_ne n1]; exact h3⟩, ⟨k2, i2, by rw [upd_ne n2]; exact h4⟩, ?_, by rw [upd_ne m4]; exact h6, n1, n2, n3⟩
  rw [upd_ne m1]
  exact h5
theorem zs_app (k : Nat) : zs k ++ [V.int 0] = zs (k + 1) := by
  unfold zs
  rw [List.replicate_succ']
theorem Stt.app1 (S : Stt K H a ns p l1 l2 d t c) {k : Nat} (e : H l1 = some (.lst (.int 5 :: zs k))) (hk : k ≤ c) : Stt K (upd H l1 (.lst ((.int 5 :: zs k) ++ [.int 0]))) a ns p l1 l2 d t (c + 1) := by
  obtain ⟨m1, m2, m3, m4, m5, m6, m7⟩ := S.nd
  obtain ⟨h1, ⟨x, y, h2, r⟩, _, ⟨k2, i2, h4⟩, h5, h6, n1, n2, n3⟩ := S
  refine ⟨h1.upd e (by simp), ⟨x, y, by rw [upd_ne (Ne.symm n1)]; exact h2, r⟩, ⟨k + 1, by omega, by rw [upd_same, List.cons_append, zs_app]⟩, ⟨k2, by omega, by rw [upd_ne (Ne.symm n3)]; exact h4⟩, ?_, by rw [upd_ne m5]; exact h6, n1, n2, n3⟩
  rw [upd_ne m2]
  exact h5
theorem Stt.app2 (S : Stt K H a ns p l1 l2 d t c) {k : Nat} (e : H l2 = some (.lst (.str "a" :: .non :: zs k))) (hk : k ≤ c) : Stt K (upd H l2 (.lst ((.str "a" :: .non :: zs k) ++ [.int 0]))) a ns p l1 l2 d t (c + 1) := by
  obtain ⟨m1, m2, m3, m4, m5, m6, m7⟩ := S.nd
  obtain ⟨h1, ⟨x, y, h2, r⟩, ⟨k1, i1, h3⟩, _, h5, h6, n1, n2, n3⟩ := S
  refine ⟨h1.upd e (by simp), ⟨x, y, by rw [upd_ne (Ne.symm n2)]; exact h2, r⟩, ⟨k1, by omega, by rw [upd_ne n3]; exact h3⟩, ⟨k + 1, by omega, by rw [upd_same, List.cons_append, List.cons_append, zs_app]⟩, ?_, by rw [upd_ne m6]; exact h6, n1, n2, n3⟩
  rw [upd_ne m3]
  exact h5
theorem Stt.put (S : Stt K H a ns p l1 l2 d t c) {u : HO} (hu : u = .dK [(.inr "a", .int 1)] ∨ u = .dK [(.inr "a", .int 1), (.inr "late", .int 0)]) : Stt K (upd H d u) a ns p l1 l2 d t c := by
  obtain ⟨m1, m2, m3, m4, m5, m6, m7⟩ := S.nd
  obtain ⟨h1, ⟨x, y, h2, r⟩, ⟨k1, i1, h3⟩, ⟨k2, i2, h4⟩, h5, h6, n1, n2, n3⟩ := S
  refine ⟨?_, ⟨x, y, by rw [upd_ne (Ne.symm m1)]; exact h2, r⟩, ⟨k1, i1, by rw [upd_ne (Ne.symm m2)]; exact h3⟩, ⟨k2, i2, by rw [upd_ne (Ne.symm m3)]; exact h4⟩, ?_, by rw [upd_ne m7]; exact h6, n1, n2, n3⟩
  · rcases h5 with h5 | h5
    · exact h1.upd h5 (by simp)
    · exact h1.upd h5 (by simp)
  · rw [upd_same]
    rcases hu with rfl | rfl
    · exact .inl rfl
    · exact .inr rfl
theorem zs_data (k : Nat) : DqAll K H (zs k) (zd k) := by
  induction k with
  | zero => exact .nil
  | succ k ih => exact .cons (.int 0) ih
theorem Stt.data (S : Stt K H a ns p l1 l2 d t c) (hc : c ≤ 4) {n : Int} (n0 : 0 ≤ n) (n1 : n < 60) {v : V} (hv : v ∈ THS l1 l2 d t n) : ∃ dv ∈ ALL, Dq K H v dv := by
  obtain ⟨_, _, ⟨k1, i1, h3⟩, ⟨k2, i2, h4⟩, h5, h6, _⟩ := S
  simp only [THS, List.mem_cons, List.not_mem_nil, or_false] at hv
  rcases hv with rfl | rfl | rfl | rfl | rfl | rfl | rfl | rfl | rfl
  · exact ⟨_, by simp only [ALL, List.mem_append, List.mem_map, List.mem_range]; exact .inl (.inr ⟨k1, by omega, rfl⟩), .lst (SqL.of h3) (.cons (.int 5) (zs_data k1))⟩
  · exact ⟨_, by simp only [ALL, List.mem_append, List.mem_map, List.mem_range]; exact .inr ⟨k2, by omega, rfl⟩, .lst (SqL.of h4) (.cons (.str _) (.cons .non (zs_data k2)))⟩
  · rcases h5 with h5 | h5
    · exact ⟨.dict [(.str "a", .int 1)], by simp [ALL], .dic h5 (.cons (.int 1) .nil)⟩
    · exact ⟨.dict [(.str "a", .int 1), (.str "late", .int 0)], by simp [ALL], .dic h5 (.cons (.int 1) (.cons (.int 0) .nil))⟩
  · exact ⟨.none, by simp [ALL], .non⟩
  · exact ⟨.str "x", by simp [ALL], .str _⟩
  · exact ⟨.tuple [.int 1], by simp [ALL], .tup (SqT.of h6) (.cons (.int 1) .nil)⟩
  · exact ⟨.bool true, by simp [ALL], .bl _⟩
  · exact ⟨.int (-3), by simp [ALL], .int _⟩
  · refine ⟨.int n, ?_, .int _⟩
    simp only [ALL, List.mem_append, List.mem_map, List.mem_range]
    exact .inl (.inl (.inr ⟨n.toNat, by omega, by rw [Int.toNat_of_nonneg n0]⟩))
theorem Stt.type (S : Stt K H a ns p l1 l2 d t c) {n : Int} {v : V} (hv : v ∈ THS l1 l2 d t n) : ∃ T : String, T ∈ ["list", "dict", "NoneType", "str", "tuple", "bool", "int"] ∧ TyX K H v (.type T) ∧ (T = "list" ↔ v = .ref l1 ∨ v = .ref l2) ∧ (T = "dict" ↔ v = .ref d) := by
  obtain ⟨m1, m2, m3, m4, m5, m6, m7⟩ := S.nd
  obtain ⟨_, _, ⟨k1, i1, h3⟩, ⟨k2, i2, h4⟩, h5, h6, _⟩ := S
  simp only [THS, List.mem_cons, List.not_mem_nil, or_false] at hv
  rcases hv with rfl | rfl | rfl | rfl | rfl | rfl | rfl | rfl | rfl
  · exact ⟨"list", by simp, .base (.lst h3), by simp, by simp [Ne.symm m2]⟩
  · exact ⟨"list", by simp, .base (.lst h4), by simp, by simp [Ne.symm m3]⟩
  · refine ⟨"dict", by simp, ?_, by simp [m2, m3], by simp⟩
    rcases h5 with h5 | h5
    · exact .base (.dK h5)
    · exact .base (.dK h5)
  · exact ⟨"NoneType", by simp, .base .non, by simp, by simp⟩
  · exact ⟨"str", by simp, .base (.str _), by simp, by simp⟩
  · exact ⟨"tuple", by simp, .base (.tup h6), by simp [m5, m6], by simp [m7]⟩
  · exact ⟨"bool", by simp, .base (.bl _), by simp, by simp⟩
  · exact ⟨"int", by simp, .base (.int _), by simp, by simp⟩
  · exact ⟨"int", by simp, .base (.int _), by simp, by simp⟩
end
theorem kit_list {T : String} (h : T ∈ ["list", "dict", "NoneType", "str", "tuple", "bool", "int"]) : PySem.W.kitOne K (.type T) (.type "list") = some (decide (T = "list")) := by
  simp only [List.mem_cons, List.not_mem_nil, or_false] at h
  rcases h with rfl | rfl | rfl | rfl | rfl | rfl | rfl
  all_goals exact kit_ty (by decide +kernel)
theorem kit_dict {T : String} (h : T ∈ ["list", "dict", "NoneType", "str", "tuple", "bool", "int"]) : PySem.W.kitOne K (.type T) (.type "dict") = some (decide (T = "dict")) := by
  simp only [List.mem_cons, List.not_mem_nil, or_false] at h
  rcases h with rfl | rfl | rfl | rfl | rfl | rfl | rfl
  all_goals exact kit_ty (by decide +kernel)
end
end K61

namespace K61
open PySem PySem.Spec PyProof.Rows L2 Gx
section
variable {P : Program} {w : World} {K : PySem.W.Frag} {mg : Str → Option Value} {base : Heap}

def spLaw (K : PySem.W.Frag) : Sp := fun vs H Q _ => ∃ (a : Addr) (ns : List Int), vs = [.ref a] ∧ ScrAt K H a ns ∧ ns.length ≤ 63 ∧ (∀ z ∈ ns, Builtin.Int.intBits z ≤ 1048576) ∧ ∀ H', Q (.bl true) H'
theorem dp_bools {H : Hp} : ∀ bs : List Bool, DpAll K H (bs.map V.bl) (bs.map PyData.bool)
  | [] => .nil
  | b :: bs => .cons (.bl b) (dp_bools bs)
theorem dq_rep {H : Hp} {v : V} {d : PyData} (h : Dq K H v d) : ∀ n, DqAll K H (List.replicate n v) (List.replicate n d)
  | 0 => .nil
  | n + 1 => .cons h (dq_rep h n)
theorem nine_at : ∀ {as : List Addr} {ns : List (Str × Str)} {H : Hp} {v : V} {m : Nat} {b : Addr}, Paired (fun (a : Addr) (q : Str × Str) => ExV H a (He.ga K q.1) q.2 v) as ns → as[m]? = some b → ∃ q, ns[m]? = some q ∧ ExV H b (He.ga K q.1) q.2 v
  | _, _, _, _, _, _, .nil, h => by simp at h
  | _, _, _, _, 0, _, .cons r t, h => by simp at h; subst h; exact ⟨_, by simp, r⟩
  | _, _, _, _, m + 1, _, .cons r t, h => by
    obtain ⟨q, h1, h2⟩ := nine_at (m := m) t (by simpa using h)
    exact ⟨q, by simpa using h1, h2⟩
theorem nine_len : ∀ {as : List Addr} {ns : List (Str × Str)} {H : Hp} {v : V}, Paired (fun (a : Addr) (q : Str × Str) => ExV H a (He.ga K q.1) q.2 v) as ns → as.length = ns.length
  | _, _, _, _, .nil => rfl
  | _, _, _, _, .cons r t => by simp [nine_len t]
theorem nine_mono : ∀ {as : List Addr} {ns : List (Str × Str)} {H H' : Hp} {v : V}, (∀ b C d, H b = some (exo b C (some d)) → H' b = some (exo b C (some d))) → (∀ d fs, H d = some (exd d fs) → H' d = some (exd d fs)) →
    Paired (fun (a : Addr) (q : Str × Str) => ExV H a (He.ga K q.1) q.2 v) as ns → Paired (fun (a : Addr) (q : Str × Str) => ExV H' a (He.ga K q.1) q.2 v) as ns
  | _, _, _, _, _, _, _, .nil => .nil
  | _, _, _, _, _, k1, k2, .cons r t => .cons (by obtain ⟨d, h1, h2⟩ := r; exact ⟨d, k1 _ _ _ h1, k2 _ _ h2⟩) (nine_mono k1 k2 t)
theorem ex_ne {H : Hp} {b p : Addr} {o u : HO} {φ : Heap → Prop} (h : H b = some o) (e : o = .ext φ) (hp : H p = some u) (n : ∀ φ, u ≠ .ext φ) : b ≠ p := ne_of h hp (fun z => n φ (z.symm.trans e))
theorem Nine.upd {H : Hp} {p : Addr} {u w : HO} {as : List Addr} {v : V} (N : Nine K H as v) (hp : H p = some u) (n : ∀ φ, u ≠ .ext φ) : Nine K (upd H p w) as v :=
  nine_mono (fun b C d h => by rw [upd_ne (ex_ne h rfl hp n)]; exact h) (fun d fs h => by rw [upd_ne (ex_ne h rfl hp n)]; exact h) N
theorem Nine.same {H H' : Hp} {as : List Addr} {v : V} (N : Nine K H as v) (k : Same H H') : Nine K H' as v := nine_mono (fun _ _ _ h => k _ _ h) (fun _ _ h => k _ _ h) N
structure Chg (K : PySem.W.Frag) (l1 l2 d : Addr) (H H' : Hp) : Prop where
  kp : ∀ b o, b ≠ l1 → b ≠ l2 → b ≠ d → H b = some o → H' b = some o
  no : ∀ b, H' b = none → H b = none
  nine : ∀ as v, Nine K H as v → Nine K H' as v
theorem Chg.refl {l1 l2 d : Addr} {H : Hp} : Chg K l1 l2 d H H := ⟨fun _ _ _ _ _ h => h, fun _ h => h, fun _ _ h => h⟩
theorem Chg.upd {l l1 l2 d : Addr} {H H' : Hp} {u w : HO} (C : Chg K l1 l2 d H H') (hl : l = l1 ∨ l = l2 ∨ l = d) (e : H' l = some u) (n : ∀ φ, u ≠ .ext φ) : Chg K l1 l2 d H (upd H' l w) := by
  refine ⟨fun b o h1 h2 h3 h => ?_, fun b h => ?_, fun as v N => (C.nine as v N).upd e n⟩
  · have : b ≠ l := by rcases hl with rfl | rfl | rfl <;> assumption
    rw [upd_ne this]
    exact C.kp b o h1 h2 h3 h
  · by_cases z : b = l
    · subst z
      rw [upd_same] at h
      cases h
    · rw [upd_ne z] at h
      exact C.no b h
theorem spot9 : ∀ m : Fin 9, (List.range 9).map (fun i => decide (V.int ((0 : Int) + (i : Nat)) = V.int ((m.val : Nat) : Int))) = names.map (fun q => decide ((names.getD m.val ("", "")).1 = q.1)) := by decide +kernel
theorem lay_bools : ∀ bs : List Bool, PyData.canLayAll0 (bs.map PyData.bool) = true
  | [] => by simp [PyData.canLayAll0]
  | b :: bs => by simp [PyData.canLayAll0, PyData.canLay0, lay_bools bs]
theorem dep_bools : ∀ bs : List Bool, PyData.depthAll (bs.map PyData.bool) = 0
  | [] => by simp [PyData.depthAll]
  | b :: bs => by simp [PyData.depthAll, PyData.depth, dep_bools bs]
theorem shaped_bools (bs : List Bool) : SeqAt.shaped (.list (bs.map PyData.bool)) = true := by
  simp [SeqAt.shaped, PyData.canLay0, lay_bools, PyData.depth, dep_bools]
theorem eqv_bools (bs : List Bool) : PyData.eqv (.list (bs.map PyData.bool)) (.list (bs.map PyData.bool)) = true := SeqAt.eqv_refl _ (SeqAt.canLay_of_shaped (shaped_bools bs))
theorem fn_law (F : Facts K mg) {fd : FuncData} (D : FunD K "law" "law" (defArgs s_law) (defBody s_law) (defScope s_law) [] [] (He.ga K "law") fd) : FnG P w K mg base CX0 5 (He.ga K "law") fd ["script"] (spLaw K) := by
  refine FnG.body D sc_law (fun vs H Q E h => ?_) (fun cdv A outer s H vs Q E hg hr h => ?_)
  · obtain ⟨_, _, rfl, _⟩ := h
    rfl
  · have hu := hu_of hr
    skip
    refine ⟨_, PSs.nox (pss_cons (ps_for PassesOwn.never rfl (pi_range1 rfl (z_range F) (pa_cons (pe_callB (call_max2 rfl) (by rfl) (z_max F) (by decide +kernel) (pa_cons pe_int (pa_cons (pe_callB (call_min2 rfl) (by rfl) (z_min F) (by decide +kernel) (pa_cons pe_int (pa_cons (pe_callB call_len (by rfl) (z_len F) boot_len (pa_cons (pv 0) pa_nil)) pa_nil))) pa_nil))) pa_nil)) (pg_name (i := 1) sc_law.nd rfl (Or.inl rfl))
      (pss_cons (ps_set (i := 2) sc_law.nd rfl (Or.inl rfl) (pe_ca (ca_law_source F) (hr.mono (by decide)) rfl pass0 (pa_cons (pv 0) (pa_cons (pv 1) pa_nil))))
    (pss_cons (ps_set (i := 3) sc_law.nd rfl (Or.inl rfl) (pe_lst (pa_cons (pe_lst (pa_cons pe_int pa_nil)) (pa_cons (pe_lst (pa_cons pe_str (pa_cons pe_non pa_nil))) (pa_cons (pe_disp (pps_cons pe_str pe_int pps_nil) (by rfl) (by rfl) (fun z => by cases z) (by decide)) (pa_cons pe_non (pa_cons pe_str (pa_cons (pe_tup (pa_cons pe_int pa_nil)) (pa_cons pe_bl (pa_cons (pe_op op_sub pe_int pe_int) (pa_cons (pe_ca (ca_law_draw F) (hr.mono (by decide)) rfl pass0 (pa_cons (pv 2) (pa_cons pe_int pa_nil))) pa_nil)))))))))))
    (pss_one (ps_for PassesOwn.never rfl (pi_list (pe_lst (pa_cons (pe_ca (ca_law_pick F) (hr.mono (by decide)) rfl pass0 (pa_cons (pv 2) (pa_cons (pe_slice sl_list (pv 3) po_none (po_some pe_int)) pa_nil))) (pa_cons (pe_ca (ca_law_pick F) (hr.mono (by decide)) rfl pass0 (pa_cons (pv 2) (pa_cons (pv 3) pa_nil))) pa_nil)))) (pg_name (i := 4) sc_law.nd rfl (Or.inl rfl))
      (pss_one (ps_for PassesOwn.never rfl (pi_list (pe_lst (pa_cons (pe_ca (ca_law_by_place F) (hr.mono (by decide)) rfl pass0 (pa_cons (pv 4) pa_nil)) (pa_cons (pe_ca (ca_law_by_name F) (hr.mono (by decide)) rfl pass0 (pa_cons (pv 4) pa_nil)) pa_nil)))) (pg_name (i := 5) sc_law.nd rfl (Or.inl rfl))
      (pss_cons (ps_for PassesOwn.never rfl (pi_enum (by rfl) (z_enumerate F) (pa_cons (pv 5) pa_nil)) (pg_tup rfl (pgs_cons (pg_name (i := 6) sc_law.nd rfl (Or.inr rfl)) (pgs_cons (pg_name (i := 7) sc_law.nd rfl (Or.inl rfl)) pgs_nil)))
      (pss_cons (ps_if (PW.pt (pw_or (pt_not (pt_val (pe_callB call_isX (by rfl) (z_isinstance F) (by decide +kernel) (pa_cons (pv 7) (pa_cons (pe_glob (v := .ref (He.ga K "DigError")) rfl (g_DigError F) rfl) pa_nil))))) (pw_or1 (pt_not (pt_val (pe_callB call_isX (by rfl) (z_isinstance F) (by decide +kernel) (pa_cons (pv 7) (pa_cons (pe_bltn (v := .ty "ValueError") (by rfl) (z_ValueError F) (by decide +kernel) rfl) pa_nil)))))))) (pss_one (ps_ret pe_bl)) pss_nil)
    (pss_one (ps_if (pt_cmpR (op_neD hr.units) (pe_ca (ca_law_kinds F) (hr.mono (by decide)) rfl pass0 (pa_cons (pv 7) pa_nil)) (pe_lc (own := [("spot", 8)]) (g := gName 8) rfl sc_law.nd (pi_range1 rfl (z_range F) (pa_cons pe_int pa_nil)) (blkOk_by (own := [("spot", 8)]) (N := ["script", "start", "source", "some", "thing", "errors", "at", "error", "spot"]) (sc := defScope s_law) (by decide +kernel)) (fun _ _ _ _ _ => (pg_name (i := 8) sc_law.nd rfl (Or.inl rfl))) (fun _ _ _ _ _ => pts_nil) (fun _ _ _ _ _ => (pe_cmpR op_eq (pv 8) (pv 6) (nomark _)))) (nomark _)) (pss_one (ps_ret pe_bl)) pss_nil))))
    (pss_cons (ps_if (pt_val (pe_callB call_isi (by rfl) (z_isinstance F) (by decide +kernel) (pa_cons (pv 4) (pa_cons (pe_bltn (v := .ty "list") (by rfl) (z_list F) (by decide +kernel) rfl) pa_nil)))) (pss_one (ps_expr (pe_bm PySem.F.plainAttrs_list PySem.F.slot_list_append PySem.F.type_list_append mt_append (pv 4) (pa_cons pe_int pa_nil)))) pss_nil)
    (pss_cons (ps_if (pt_val (pe_callB call_isi (by rfl) (z_isinstance F) (by decide +kernel) (pa_cons (pv 4) (pa_cons (pe_bltn (v := .ty "dict") (by rfl) (z_dict F) (by decide +kernel) rfl) pa_nil)))) (pss_one (ps_dput hu (pv 4) pe_str pe_int rfl)) pss_nil)
    (pss_one (ps_if (pt_cmpR op_ne (pe_callB (call_repr F.sys hg hr.units) (by rfl) (z_repr F) (by decide +kernel) (pa_cons (pe_ca (ca_law_stored F) (hr.mono (by decide)) rfl pass0 (pa_cons (pv 5) pa_nil)) pa_nil)) (pe_callB (call_repr F.sys hg hr.units) (by rfl) (z_repr F) (by decide +kernel) (pa_cons (pe_op op_rep (pe_lst (pa_cons (pv 4) pa_nil)) pe_int) pa_nil)) (nomark _)) (pss_one (ps_ret pe_bl)) pss_nil))))))))))))
    (pss_one (ps_ret pe_bl))), ?_⟩
    obtain ⟨a, ns, rfl, hS, hl, hb, q⟩ := h
    refine ⟨_, rfl, _, _, rfl, .inl ⟨_, hS.sq, rfl⟩, _, _, rfl, _, _, rfl, _, rfl, ?_, ?_, ?_⟩
    · repeat' split
      all_goals omega
    · repeat' split
      all_goals omega
    refine for_range (lo := 0) (fun i σ H' => ScrAt K H' a ns ∧ ∃ c1 c2 c3 c4 c5 c6 c7 c8 : Option V, σ = [some (.ref a), c1, c2, c3, c4, c5, c6, c7, c8]) ⟨hS, _, _, _, _, _, _, _, _, rfl⟩ (fun i σ H' hi z => ?_) (fun σ H' z => q H')
    obtain ⟨hS', c1, c2, c3, c4, c5, c6, c7, c8, rfl⟩ := z
    have hi4 : i < 5 := by
      revert hi
      repeat' split
      all_goals omega
    refine ⟨_, rfl, _, rfl, a, ns, _, rfl, hS'.sq, hl, hb, by omega, by omega, fun p o hp ho => ?_⟩
    generalize g1 : upd _ p _ = H1
    obtain ⟨s1, e1, _⟩ := laid g1 hp
    have r1 : SrcAt H1 p := .of ho e1
    have S1 := hS'.mono (fun b o u => s1 b _)
    refine ⟨(by show 1 ≤ sizeLine; decide), fun l1 h2 => ?_⟩
    generalize g2 : upd _ l1 _ = H2
    obtain ⟨s2, e2, _⟩ := laid g2 h2
    refine ⟨(by show 2 ≤ sizeLine; decide), fun l2 h3 => ?_⟩
    generalize g3 : upd _ l2 _ = H3
    obtain ⟨s3, e3, _⟩ := laid g3 h3
    intro d h4
    refine ⟨upd_same, [(.inr "a", .int 1)], rfl, by decide, ?_⟩
    rw [upd_upd]
    generalize g4 : upd _ d _ = H4
    obtain ⟨s4, e4, _⟩ := laid g4 h4
    refine ⟨(by show 1 ≤ sizeLine; decide), fun t h5 => ?_⟩
    generalize g5 : upd _ t _ = H5
    obtain ⟨s5, e5, _⟩ := laid g5 h5
    have t25 := s3.trans (s4.trans s5)
    have S5 : Stt K H5 a ns p l1 l2 d t 0 := by
      obtain ⟨x, y, h, r⟩ := r1
      exact ⟨S1.mono fun b o u z => t25 _ _ (s2 _ _ z), ⟨x, y, t25 _ _ (s2 _ _ h), r⟩, ⟨0, Nat.le_refl _, t25 _ _ e2⟩, ⟨0, Nat.le_refl _, s5 _ _ (s4 _ _ e3)⟩, .inl (s5 _ _ e4), e5, (ne_of_none e1 h2).symm, (ne_of_none (s2 _ _ e1) h3).symm, ne_of_none e2 h3⟩
    refine ⟨_, _, rfl, rfl, _, rfl, p, 60, rfl, S5.src, by omega, by omega, fun n o2 n0 n60 ho2 => ⟨(by show 9 ≤ sizeLine; decide), ?_⟩⟩
    have S6 := S5.draw ho2
    generalize g6 : upd H5 p o2 = H6 at S6 ⊢
    intro sm h7
    generalize g7 : upd _ sm _ = H7
    obtain ⟨s7, e7, _⟩ := laid g7 h7
    have nsm : sm ≠ p := by
      obtain ⟨x, y, z, _⟩ := S6.src
      exact (ne_of_none z h7).symm
    have S7 := S6.same s7
    refine ⟨_, rfl, _, rfl, 3, rfl, sm, _, rfl, SqL.of e7, fun bt h8 => ?_⟩
    generalize g8 : upd _ bt _ = H8
    obtain ⟨s8, e8, _⟩ := laid g8 h8
    have S8 := S7.same s8
    have nbt : bt ≠ p := by
      obtain ⟨x, y, z, _⟩ := S7.src
      exact (ne_of_none z h8).symm
    refine ⟨p, bt, _, rfl, S8.src, SqL.of e8, (by show 0 < 3; decide), (by show 3 < 1000000; decide), nbt, fun v1 o3 hv1 ho3 => ?_⟩
    have S9 := S8.draw ho3
    have e9 : upd H8 p o3 sm = some (.lst (THS l1 l2 d t n)) := by
      rw [upd_ne nsm]
      exact s8 _ _ e7
    generalize g9 : upd H8 p o3 = H9 at S9 e9 ⊢
    refine ⟨_, rfl, _, rfl, p, sm, _, rfl, S9.src, SqL.of e9, (by show 0 < 9; decide), (by show 9 < 1000000; decide), nsm, fun v2 o4 hv2 ho4 => ⟨(by show 2 ≤ sizeLine; decide), ?_⟩⟩
    have S10 := S9.draw ho4
    generalize g10 : upd H9 p o4 = H10 at S10 ⊢
    intro tl h11
    generalize g11 : upd _ tl _ = H11
    obtain ⟨s11, e11, _⟩ := laid g11 h11
    have S11 := S10.same s11
    have w1 : v1 ∈ THS l1 l2 d t n := by
      have z : v1 ∈ [V.ref l1, V.ref l2, V.ref d] := hv1
      simp only [List.mem_cons, List.not_mem_nil, or_false] at z
      rcases z with rfl | rfl | rfl <;> simp [THS]
    -- what is not one of the three that may be changed
    have nl : ∀ {b : Addr} {G : Hp}, Same H10 G → G b = none → b ≠ l1 ∧ b ≠ l2 ∧ b ≠ d := by
      intro b G k hb
      obtain ⟨_, _, ⟨_, _, z1⟩, ⟨_, _, z2⟩, z3, _⟩ := S10.same k
      refine ⟨(ne_of_none z1 hb).symm, (ne_of_none z2 hb).symm, ?_⟩
      rcases z3 with z3 | z3
      · exact (ne_of_none z3 hb).symm
      · exact (ne_of_none z3 hb).symm
    have ntl := nl (Same.refl _) h11
    refine ⟨tl, rfl, ⟨_, SqL.of e11⟩, ?_⟩
    refine for_list (K := K) (xs := [v1, v2]) (fun j σ H' => Stt K H' a ns p l1 l2 d t (2 * j) ∧ H' tl = some (.lst [v1, v2]) ∧ (∀ b, H' b = none → b ≠ l1 ∧ b ≠ l2 ∧ b ≠ d) ∧ ∃ c4 c5 c6 c7 c8, σ = [some (.ref a), some (.int (0 + (i : Nat))), some (.ref p), some (.ref sm), c4, c5, c6, c7, c8]) ⟨S11, e11, fun b hb => nl s11 hb, _, _, _, _, _, rfl⟩ (fun j σ H' _ z => SqL.of z.2.1) (fun j x σ H' hx z => ?_) (fun σ H' z => ?_)
    · obtain ⟨S, etl, fr, c4, c5, c6, c7, c8, rfl⟩ := z
      have hj : j < 2 := (List.getElem?_eq_some_iff.mp hx).1
      have hxT : x ∈ THS l1 l2 d t n := by
        have z := List.mem_of_getElem? hx
        simp only [List.mem_cons, List.not_mem_nil, or_false] at z
        rcases z with rfl | rfl
        · exact w1
        · exact hv2
      clear hx
      refine ⟨_, rfl, x, rfl, fun H12 q1 as1 s12 e12 N12 n12 => ⟨_, rfl, x, rfl, fun H13 q2 as2 s13 e13 N13 n13 => ⟨(by show 2 ≤ sizeLine; decide), fun el h14 => ?_⟩⟩⟩
      generalize g14 : upd _ el _ = H14
      obtain ⟨s14, e14, _⟩ := laid g14 h14
      have t14 := s12.trans (s13.trans s14)
      have nq1 := fr _ n12
      have nq2 := fr _ (none_old s12 n13)
      have nel := fr _ (none_old (s12.trans s13) h14)
      refine ⟨el, rfl, ⟨_, SqL.of e14⟩, ?_⟩
      refine for_list (K := K) (xs := [.ref q1, .ref q2]) (fun k σ H' => Stt K H' a ns p l1 l2 d t (2 * j + k) ∧ H' tl = some (.lst [v1, v2]) ∧ (∀ b, H' b = none → b ≠ l1 ∧ b ≠ l2 ∧ b ≠ d) ∧ H' el = some (.lst [.ref q1, .ref q2]) ∧ H' q1 = some (.lst (as1.map V.ref)) ∧ H' q2 = some (.lst (as2.map V.ref)) ∧ Nine K H' as1 x ∧ Nine K H' as2 x ∧
        ∃ c5 c6 c7 c8, σ = [some (.ref a), some (.int (0 + (i : Nat))), some (.ref p), some (.ref sm), some x, c5, c6, c7, c8]) ⟨S.same t14, t14 _ _ etl, fun b hb => fr _ (none_old t14 hb), e14, s14 _ _ (s13 _ _ e12), s14 _ _ e13, N12.same (s13.trans s14), N13.same s14, _, _, _, _, rfl⟩ (fun j σ H' _ z => SqL.of z.2.2.2.1) (fun k y σ H' hy z => ?_) (fun σ H' z => ?_)
      · obtain ⟨S, etl, fr, eel, eq1, eq2, N1, N2, c5, c6, c7, c8, rfl⟩ := z
        have hk : k < 2 := (List.getElem?_eq_some_iff.mp hy).1
        obtain ⟨qq, asq, rfl, eq, N, nqq⟩ : ∃ (qq : Addr) (asq : List Addr), y = .ref qq ∧ H' qq = some (.lst (asq.map V.ref)) ∧ Nine K H' asq x ∧ (qq ≠ l1 ∧ qq ≠ l2 ∧ qq ≠ d) := by
          have z := List.mem_of_getElem? hy
          simp only [List.mem_cons, List.not_mem_nil, or_false] at z
          rcases z with rfl | rfl
          · exact ⟨q1, as1, rfl, eq1, N1, nq1⟩
          · exact ⟨q2, as2, rfl, eq2, N2, nq2⟩
        clear hy
        refine ⟨_, rfl, qq, _, rfl, SqL.of eq, ?_⟩
        refine for_it (walk_enum (K := K) (a := qq) (xs := asq.map V.ref)) (fun m σ H'' => Same H' H'' ∧ ∃ c6 c7 c8, σ = [some (.ref a), some (.int (0 + (i : Nat))), some (.ref p), some (.ref sm), some x, some (.ref qq), c6, c7, c8]) ⟨Same.refl _, _, _, _, rfl⟩ (fun m σ H'' _ z => SqL.of (z.1 _ _ eq)) (fun m y σ H15 H16 hm z w => ?_) (fun σ H15 z => ?_)
        · obtain ⟨s15, c6, c7, c8, rfl⟩ := z
          obtain ⟨T, u, w', rfl, hT, eH, eu, ew⟩ := w
          cases eu
          dsimp only at ew
          rw [List.getElem?_map] at ew
          obtain ⟨b, hb', rfl⟩ := Option.map_eq_some_iff.mp ew
          obtain ⟨⟨nx, nf⟩, hnx, d', x1, x2⟩ := nine_at N hb'
          have mem : (nx, nf) ∈ names := List.mem_of_getElem? hnx
          have B := exF F mem
          have hm9 : m < 9 := (List.getElem?_eq_some_iff.mp hnx).1
          obtain ⟨s16, e16, _⟩ := laid eH.symm hT
          have t16 := s15.trans s16
          refine ⟨T, _, rfl, SqT.of e16, rfl, _, _, rfl, _, _, rfl, rfl, ?_⟩
          refine ⟨_, rfl, b, _, d', _, .ref _, .ref _, true, rfl, t16 _ _ x1, t16 _ _ x2, B.C, fun u r => r, (kitD F mem).1, true, rfl, ?_⟩
          refine ⟨_, rfl, b, _, d', _, .ty "ValueError", .type "ValueError", true, rfl, t16 _ _ x1, t16 _ _ x2, B.C, fun u r => r, (kitD F mem).2, true, rfl, ?_⟩
          refine ⟨_, rfl, b, nx, d', _, rfl, ⟨nf, mem⟩, t16 _ _ x1, t16 _ _ x2, fun H17 kq s17 e17 n17 => ?_⟩
          refine ⟨9, rfl, by decide, by decide, fun D1 hD1 => ?_⟩
          refine lc_range (lo := 0) (n := 9) (fun i H' => Same H17 H' ∧ H' D1 = some (.lst ((List.range i).map fun i => V.bl (decide (V.int ((0 : Int) + (i : Nat)) = V.int ((m : Nat) : Int)))))) ⟨Same.new hD1, upd_same⟩ (fun i H' hi z => ?_) (fun H18 z => ?_)
          · refine ⟨rfl, _, rfl, _, rfl, rfl, _, z.2, ?_, Same.over z.1 hD1, ?_⟩
            · rw [List.length_map, List.length_range]
              exact Nat.lt_of_lt_of_le hi (by decide)
            · rw [upd_same, List.range_succ, List.map_append]
              rfl
          · have hnm : names.getD m ("", "") = (nx, nf) := by simp [List.getD, hnx]
            have es := spot9 ⟨m, hm9⟩
            dsimp only at es
            rw [hnm] at es
            have e18 : H18 D1 = some (.lst ((names.map fun q => decide (nx = q.1)).map V.bl)) := by
              rw [z.2, ← es, List.map_map]
              rfl
            have e17' : H18 kq = some (.lst ((names.map fun q => decide (nx = q.1)).map V.bl)) := by
              rw [z.1 _ _ e17, List.map_map]
              rfl
            generalize (names.map fun q => decide (nx = q.1)) = bs at e17' e18
            refine ⟨.list (bs.map .bool), .list (bs.map .bool), .lst (SqL.of e17') (dp_bools bs), .lst (SqL.of e18) (dp_bools bs), shaped_bools bs, shaped_bools bs, _, rfl, ?_⟩
            rw [eqv_bools]
            exact ⟨t16.trans (s17.trans z.1), _, _, _, rfl⟩
        · obtain ⟨s15, c6, c7, c8, rfl⟩ := z
          have S15 := S.same s15
          obtain ⟨T, hT, ty, kl, kd⟩ := S15.type hxT
          refine ⟨_, rfl, x, .ty "list", .type T, .type "list", _, rfl, .ty _, ty, kit_list hT, _, rfl, ?_⟩
          refine ite2 (fun c => ?_) (fun c => ?_)
          · rcases kl.mp (of_decide_eq_true c) with hx1 | hx1
            · obtain ⟨k1, i1, h1⟩ := S15.e1
              have S18 := S15.app1 h1 i1
              have C18 := (Chg.refl (K := K) (l1 := l1) (l2 := l2) (d := d) (H := H15)).upd (w := .lst ((.int 5 :: zs k1) ++ [.int 0])) (.inl rfl) h1 (by simp)
              refine ⟨_, rfl, ?_, l1, _, .int 0, hx1, rfl, h1, ?_, ?_⟩
              · rw [hx1]
                exact .inl ⟨rfl, _, SqL.of h1⟩
              · simp only [List.length_cons, zs, List.length_replicate]
                exact Nat.lt_of_lt_of_le (by omega : k1 + 1 < 100) (by decide)
              generalize upd H15 l1 (HO.lst ((V.int 5 :: zs k1) ++ [V.int 0])) = H18 at S18 C18 ⊢
              obtain ⟨T2, hT2, ty2, kl2, kd2⟩ := S18.type hxT
              refine ⟨_, rfl, x, .ty "dict", .type T2, .type "dict", _, rfl, .ty _, ty2, kit_dict hT2, _, rfl, ?_⟩
              refine ite2 (fun c2 => ?_) (fun c2 => ?_)
              · have xd := kd2.mp (of_decide_eq_true c2)
                rcases S18.ed with ed | ed
                · refine ⟨_, rfl, d, _, xd, DPut.k (k := Sum.inr "late") ed (by decide), ?_⟩
                  have S19 := S18.put (u := .dK (putK [(.inr "a", .int 1)] (.inr "late") (.int 0))) (.inr rfl)
                  have C19 := C18.upd (w := .dK (putK [(.inr "a", .int 1)] (.inr "late") (.int 0))) (.inr (.inr rfl)) ed (by simp)
                  generalize upd H18 d (HO.dK (putK [(Sum.inr "a", V.int 1)] (Sum.inr "late") (V.int 0))) = H19 at S19 C19 ⊢
                  obtain ⟨dv, hdv, Dv⟩ := S19.data (by omega) n0 n60 hxT
                  have ok := all_ok dv hdv
                  simp only [okD, Bool.and_eq_true, decide_eq_true_eq] at ok
                  obtain ⟨o1, o2, o3⟩ := ok
                  refine ⟨_, rfl, qq, asq, x, rfl, C19.kp qq _ nqq.1 nqq.2.1 nqq.2.2 (s15 _ _ eq), C19.nine _ _ (N.same s15), fun H20 r1 s20 e20 n20 => ?_⟩
                  refine ⟨.ref r1, .list (List.replicate 9 dv), rfl, .lst (SqL.of e20) (dq_rep (Dq.same s20 Dv) 9), o1, o2, Nat.le_trans o3 (by decide), ?_⟩
                  refine ⟨_, rfl, (by show 1 ≤ sizeLine; decide), fun w1' h21 => ?_⟩
                  generalize g21 : upd _ w1' _ = H21
                  obtain ⟨s21, e21, _⟩ := laid g21 h21
                  refine ⟨w1', 9, _, rfl, rfl, e21, by decide, by decide, (by show 1 * 9 ≤ sizeLine; decide), fun w2' h22 => ?_⟩
                  generalize g22 : upd _ w2' _ = H22
                  obtain ⟨s22, e22, _⟩ := laid g22 h22
                  have t22 := s20.trans (s21.trans s22)
                  refine ⟨.ref w2', .list (List.replicate 9 dv), rfl, .lst (SqL.of e22) (dq_rep (Dq.same t22 Dv) 9), o1, o2, Nat.le_trans o3 (by decide), ?_⟩
                  refine ⟨rfl, _, rfl, ?_⟩
                  refine iteNS rfl ?_
                  exact ⟨S19.same t22, t22 _ _ (C19.kp _ _ ntl.1 ntl.2.1 ntl.2.2 (s15 _ _ etl)), fun b hb => fr _ (none_old s15 (C19.no _ (none_old t22 hb))), t22 _ _ (C19.kp _ _ nel.1 nel.2.1 nel.2.2 (s15 _ _ eel)), t22 _ _ (C19.kp _ _ nq1.1 nq1.2.1 nq1.2.2 (s15 _ _ eq1)), t22 _ _ (C19.kp _ _ nq2.1 nq2.2.1 nq2.2.2 (s15 _ _ eq2)), (C19.nine _ _ (N1.same s15)).same t22, (C19.nine _ _ (N2.same s15)).same t22, _, _, _, _, rfl⟩
                · refine ⟨_, rfl, d, _, xd, DPut.k (k := Sum.inr "late") ed (by decide), ?_⟩
                  have S19 := S18.put (u := .dK (putK [(.inr "a", .int 1), (.inr "late", .int 0)] (.inr "late") (.int 0))) (.inr rfl)
                  have C19 := C18.upd (w := .dK (putK [(.inr "a", .int 1), (.inr "late", .int 0)] (.inr "late") (.int 0))) (.inr (.inr rfl)) ed (by simp)
                  generalize upd H18 d (HO.dK (putK [(Sum.inr "a", V.int 1), (Sum.inr "late", V.int 0)] (Sum.inr "late") (V.int 0))) = H19 at S19 C19 ⊢
                  obtain ⟨dv, hdv, Dv⟩ := S19.data (by omega) n0 n60 hxT
                  have ok := all_ok dv hdv
                  simp only [okD, Bool.and_eq_true, decide_eq_true_eq] at ok
                  obtain ⟨o1, o2, o3⟩ := ok
                  refine ⟨_, rfl, qq, asq, x, rfl, C19.kp qq _ nqq.1 nqq.2.1 nqq.2.2 (s15 _ _ eq), C19.nine _ _ (N.same s15), fun H20 r1 s20 e20 n20 => ?_⟩
                  refine ⟨.ref r1, .list (List.replicate 9 dv), rfl, .lst (SqL.of e20) (dq_rep (Dq.same s20 Dv) 9), o1, o2, Nat.le_trans o3 (by decide), ?_⟩
                  refine ⟨_, rfl, (by show 1 ≤ sizeLine; decide), fun w1' h21 => ?_⟩
                  generalize g21 : upd _ w1' _ = H21
                  obtain ⟨s21, e21, _⟩ := laid g21 h21
                  refine ⟨w1', 9, _, rfl, rfl, e21, by decide, by decide, (by show 1 * 9 ≤ sizeLine; decide), fun w2' h22 => ?_⟩
                  generalize g22 : upd _ w2' _ = H22
                  obtain ⟨s22, e22, _⟩ := laid g22 h22
                  have t22 := s20.trans (s21.trans s22)
                  refine ⟨.ref w2', .list (List.replicate 9 dv), rfl, .lst (SqL.of e22) (dq_rep (Dq.same t22 Dv) 9), o1, o2, Nat.le_trans o3 (by decide), ?_⟩
                  refine ⟨rfl, _, rfl, ?_⟩
                  refine iteNS rfl ?_
                  exact ⟨S19.same t22, t22 _ _ (C19.kp _ _ ntl.1 ntl.2.1 ntl.2.2 (s15 _ _ etl)), fun b hb => fr _ (none_old s15 (C19.no _ (none_old t22 hb))), t22 _ _ (C19.kp _ _ nel.1 nel.2.1 nel.2.2 (s15 _ _ eel)), t22 _ _ (C19.kp _ _ nq1.1 nq1.2.1 nq1.2.2 (s15 _ _ eq1)), t22 _ _ (C19.kp _ _ nq2.1 nq2.2.1 nq2.2.2 (s15 _ _ eq2)), (C19.nine _ _ (N1.same s15)).same t22, (C19.nine _ _ (N2.same s15)).same t22, _, _, _, _, rfl⟩
              · have S19 := S18
                have C19 := C18
                obtain ⟨dv, hdv, Dv⟩ := S19.data (by omega) n0 n60 hxT
                have ok := all_ok dv hdv
                simp only [okD, Bool.and_eq_true, decide_eq_true_eq] at ok
                obtain ⟨o1, o2, o3⟩ := ok
                refine ⟨_, rfl, qq, asq, x, rfl, C19.kp qq _ nqq.1 nqq.2.1 nqq.2.2 (s15 _ _ eq), C19.nine _ _ (N.same s15), fun H20 r1 s20 e20 n20 => ?_⟩
                refine ⟨.ref r1, .list (List.replicate 9 dv), rfl, .lst (SqL.of e20) (dq_rep (Dq.same s20 Dv) 9), o1, o2, Nat.le_trans o3 (by decide), ?_⟩
                refine ⟨_, rfl, (by show 1 ≤ sizeLine; decide), fun w1' h21 => ?_⟩
                generalize g21 : upd _ w1' _ = H21
                obtain ⟨s21, e21, _⟩ := laid g21 h21
                refine ⟨w1', 9, _, rfl, rfl, e21, by decide, by decide, (by show 1 * 9 ≤ sizeLine; decide), fun w2' h22 => ?_⟩
                generalize g22 : upd _ w2' _ = H22
                obtain ⟨s22, e22, _⟩ := laid g22 h22
                have t22 := s20.trans (s21.trans s22)
                refine ⟨.ref w2', .list (List.replicate 9 dv), rfl, .lst (SqL.of e22) (dq_rep (Dq.same t22 Dv) 9), o1, o2, Nat.le_trans o3 (by decide), ?_⟩
                refine ⟨rfl, _, rfl, ?_⟩
                refine iteNS rfl ?_
                exact ⟨S19.same t22, t22 _ _ (C19.kp _ _ ntl.1 ntl.2.1 ntl.2.2 (s15 _ _ etl)), fun b hb => fr _ (none_old s15 (C19.no _ (none_old t22 hb))), t22 _ _ (C19.kp _ _ nel.1 nel.2.1 nel.2.2 (s15 _ _ eel)), t22 _ _ (C19.kp _ _ nq1.1 nq1.2.1 nq1.2.2 (s15 _ _ eq1)), t22 _ _ (C19.kp _ _ nq2.1 nq2.2.1 nq2.2.2 (s15 _ _ eq2)), (C19.nine _ _ (N1.same s15)).same t22, (C19.nine _ _ (N2.same s15)).same t22, _, _, _, _, rfl⟩
            · obtain ⟨k1, i1, h1⟩ := S15.e2
              have S18 := S15.app2 h1 i1
              have C18 := (Chg.refl (K := K) (l1 := l1) (l2 := l2) (d := d) (H := H15)).upd (w := .lst ((.str "a" :: .non :: zs k1) ++ [.int 0])) (.inr (.inl rfl)) h1 (by simp)
              refine ⟨_, rfl, ?_, l2, _, .int 0, hx1, rfl, h1, ?_, ?_⟩
              · rw [hx1]
                exact .inl ⟨rfl, _, SqL.of h1⟩
              · simp only [List.length_cons, zs, List.length_replicate]
                exact Nat.lt_of_lt_of_le (by omega : k1 + 1 + 1 < 100) (by decide)
              generalize upd H15 l2 (HO.lst ((V.str "a" :: V.non :: zs k1) ++ [V.int 0])) = H18 at S18 C18 ⊢
              obtain ⟨T2, hT2, ty2, kl2, kd2⟩ := S18.type hxT
              refine ⟨_, rfl, x, .ty "dict", .type T2, .type "dict", _, rfl, .ty _, ty2, kit_dict hT2, _, rfl, ?_⟩
              refine ite2 (fun c2 => ?_) (fun c2 => ?_)
              · have xd := kd2.mp (of_decide_eq_true c2)
                rcases S18.ed with ed | ed
                · refine ⟨_, rfl, d, _, xd, DPut.k (k := Sum.inr "late") ed (by decide), ?_⟩
                  have S19 := S18.put (u := .dK (putK [(.inr "a", .int 1)] (.inr "late") (.int 0))) (.inr rfl)
                  have C19 := C18.upd (w := .dK (putK [(.inr "a", .int 1)] (.inr "late") (.int 0))) (.inr (.inr rfl)) ed (by simp)
                  generalize upd H18 d (HO.dK (putK [(Sum.inr "a", V.int 1)] (Sum.inr "late") (V.int 0))) = H19 at S19 C19 ⊢
                  obtain ⟨dv, hdv, Dv⟩ := S19.data (by omega) n0 n60 hxT
                  have ok := all_ok dv hdv
                  simp only [okD, Bool.and_eq_true, decide_eq_true_eq] at ok
                  obtain ⟨o1, o2, o3⟩ := ok
                  refine ⟨_, rfl, qq, asq, x, rfl, C19.kp qq _ nqq.1 nqq.2.1 nqq.2.2 (s15 _ _ eq), C19.nine _ _ (N.same s15), fun H20 r1 s20 e20 n20 => ?_⟩
                  refine ⟨.ref r1, .list (List.replicate 9 dv), rfl, .lst (SqL.of e20) (dq_rep (Dq.same s20 Dv) 9), o1, o2, Nat.le_trans o3 (by decide), ?_⟩
                  refine ⟨_, rfl, (by show 1 ≤ sizeLine; decide), fun w1' h21 => ?_⟩
                  generalize g21 : upd _ w1' _ = H21
                  obtain ⟨s21, e21, _⟩ := laid g21 h21
                  refine ⟨w1', 9, _, rfl, rfl, e21, by decide, by decide, (by show 1 * 9 ≤ sizeLine; decide), fun w2' h22 => ?_⟩
                  generalize g22 : upd _ w2' _ = H22
                  obtain ⟨s22, e22, _⟩ := laid g22 h22
                  have t22 := s20.trans (s21.trans s22)
                  refine ⟨.ref w2', .list (List.replicate 9 dv), rfl, .lst (SqL.of e22) (dq_rep (Dq.same t22 Dv) 9), o1, o2, Nat.le_trans o3 (by decide), ?_⟩
                  refine ⟨rfl, _, rfl, ?_⟩
                  refine iteNS rfl ?_
                  exact ⟨S19.same t22, t22 _ _ (C19.kp _ _ ntl.1 ntl.2.1 ntl.2.2 (s15 _ _ etl)), fun b hb => fr _ (none_old s15 (C19.no _ (none_old t22 hb))), t22 _ _ (C19.kp _ _ nel.1 nel.2.1 nel.2.2 (s15 _ _ eel)), t22 _ _ (C19.kp _ _ nq1.1 nq1.2.1 nq1.2.2 (s15 _ _ eq1)), t22 _ _ (C19.kp _ _ nq2.1 nq2.2.1 nq2.2.2 (s15 _ _ eq2)), (C19.nine _ _ (N1.same s15)).same t22, (C19.nine _ _ (N2.same s15)).same t22, _, _, _, _, rfl⟩
                · refine ⟨_, rfl, d, _, xd, DPut.k (k := Sum.inr "late") ed (by decide), ?_⟩
                  have S19 := S18.put (u := .dK (putK [(.inr "a", .int 1), (.inr "late", .int 0)] (.inr "late") (.int 0))) (.inr rfl)
                  have C19 := C18.upd (w := .dK (putK [(.inr "a", .int 1), (.inr "late", .int 0)] (.inr "late") (.int 0))) (.inr (.inr rfl)) ed (by simp)
                  generalize upd H18 d (HO.dK (putK [(Sum.inr "a", V.int 1), (Sum.inr "late", V.int 0)] (Sum.inr "late") (V.int 0))) = H19 at S19 C19 ⊢
                  obtain ⟨dv, hdv, Dv⟩ := S19.data (by omega) n0 n60 hxT
                  have ok := all_ok dv hdv
                  simp only [okD, Bool.and_eq_true, decide_eq_true_eq] at ok
                  obtain ⟨o1, o2, o3⟩ := ok
                  refine ⟨_, rfl, qq, asq, x, rfl, C19.kp qq _ nqq.1 nqq.2.1 nqq.2.2 (s15 _ _ eq), C19.nine _ _ (N.same s15), fun H20 r1 s20 e20 n20 => ?_⟩
                  refine ⟨.ref r1, .list (List.replicate 9 dv), rfl, .lst (SqL.of e20) (dq_rep (Dq.same s20 Dv) 9), o1, o2, Nat.le_trans o3 (by decide), ?_⟩
                  refine ⟨_, rfl, (by show 1 ≤ sizeLine; decide), fun w1' h21 => ?_⟩
                  generalize g21 : upd _ w1' _ = H21
                  obtain ⟨s21, e21, _⟩ := laid g21 h21
                  refine ⟨w1', 9, _, rfl, rfl, e21, by decide, by decide, (by show 1 * 9 ≤ sizeLine; decide), fun w2' h22 => ?_⟩
                  generalize g22 : upd _ w2' _ = H22
                  obtain ⟨s22, e22, _⟩ := laid g22 h22
                  have t22 := s20.trans (s21.trans s22)
                  refine ⟨.ref w2', .list (List.replicate 9 dv), rfl, .lst (SqL.of e22) (dq_rep (Dq.same t22 Dv) 9), o1, o2, Nat.le_trans o3 (by decide), ?_⟩
                  refine ⟨rfl, _, rfl, ?_⟩
                  refine iteNS rfl ?_
                  exact ⟨S19.same t22, t22 _ _ (C19.kp _ _ ntl.1 ntl.2.1 ntl.2.2 (s15 _ _ etl)), fun b hb => fr _ (none_old s15 (C19.no _ (none_old t22 hb))), t22 _ _ (C19.kp _ _ nel.1 nel.2.1 nel.2.2 (s15 _ _ eel)), t22 _ _ (C19.kp _ _ nq1.1 nq1.2.1 nq1.2.2 (s15 _ _ eq1)), t22 _ _ (C19.kp _ _ nq2.1 nq2.2.1 nq2.2.2 (s15 _ _ eq2)), (C19.nine _ _ (N1.same s15)).same t22, (C19.nine _ _ (N2.same s15)).same t22, _, _, _, _, rfl⟩
              · have S19 := S18
                have C19 := C18
                obtain ⟨dv, hdv, Dv⟩ := S19.data (by omega) n0 n60 hxT
                have ok := all_ok dv hdv
                simp only [okD, Bool.and_eq_true, decide_eq_true_eq] at ok
                obtain ⟨o1, o2, o3⟩ := ok
                refine ⟨_, rfl, qq, asq, x, rfl, C19.kp qq _ nqq.1 nqq.2.1 nqq.2.2 (s15 _ _ eq), C19.nine _ _ (N.same s15), fun H20 r1 s20 e20 n20 => ?_⟩
                refine ⟨.ref r1, .list (List.replicate 9 dv), rfl, .lst (SqL.of e20) (dq_rep (Dq.same s20 Dv) 9), o1, o2, Nat.le_trans o3 (by decide), ?_⟩
                refine ⟨_, rfl, (by show 1 ≤ sizeLine; decide), fun w1' h21 => ?_⟩
                generalize g21 : upd _ w1' _ = H21
                obtain ⟨s21, e21, _⟩ := laid g21 h21
                refine ⟨w1', 9, _, rfl, rfl, e21, by decide, by decide, (by show 1 * 9 ≤ sizeLine; decide), fun w2' h22 => ?_⟩
                generalize g22 : upd _ w2' _ = H22
                obtain ⟨s22, e22, _⟩ := laid g22 h22
                have t22 := s20.trans (s21.trans s22)
                refine ⟨.ref w2', .list (List.replicate 9 dv), rfl, .lst (SqL.of e22) (dq_rep (Dq.same t22 Dv) 9), o1, o2, Nat.le_trans o3 (by decide), ?_⟩
                refine ⟨rfl, _, rfl, ?_⟩
                refine iteNS rfl ?_
                exact ⟨S19.same t22, t22 _ _ (C19.kp _ _ ntl.1 ntl.2.1 ntl.2.2 (s15 _ _ etl)), fun b hb => fr _ (none_old s15 (C19.no _ (none_old t22 hb))), t22 _ _ (C19.kp _ _ nel.1 nel.2.1 nel.2.2 (s15 _ _ eel)), t22 _ _ (C19.kp _ _ nq1.1 nq1.2.1 nq1.2.2 (s15 _ _ eq1)), t22 _ _ (C19.kp _ _ nq2.1 nq2.2.1 nq2.2.2 (s15 _ _ eq2)), (C19.nine _ _ (N1.same s15)).same t22, (C19.nine _ _ (N2.same s15)).same t22, _, _, _, _, rfl⟩
          · have S18 := S15.le (Nat.le_succ _)
            have C18 : Chg K l1 l2 d H15 H15 := Chg.refl
            replace c : True := trivial
            obtain ⟨T2, hT2, ty2, kl2, kd2⟩ := S18.type hxT
            refine ⟨_, rfl, x, .ty "dict", .type T2, .type "dict", _, rfl, .ty _, ty2, kit_dict hT2, _, rfl, ?_⟩
            refine ite2 (fun c2 => ?_) (fun c2 => ?_)
            · have xd := kd2.mp (of_decide_eq_true c2)
              rcases S18.ed with ed | ed
              · refine ⟨_, rfl, d, _, xd, DPut.k (k := Sum.inr "late") ed (by decide), ?_⟩
                have S19 := S18.put (u := .dK (putK [(.inr "a", .int 1)] (.inr "late") (.int 0))) (.inr rfl)
                have C19 := C18.upd (w := .dK (putK [(.inr "a", .int 1)] (.inr "late") (.int 0))) (.inr (.inr rfl)) ed (by simp)
                generalize upd H15 d (HO.dK (putK [(Sum.inr "a", V.int 1)] (Sum.inr "late") (V.int 0))) = H19 at S19 C19 ⊢
                obtain ⟨dv, hdv, Dv⟩ := S19.data (by omega) n0 n60 hxT
                have ok := all_ok dv hdv
                simp only [okD, Bool.and_eq_true, decide_eq_true_eq] at ok
                obtain ⟨o1, o2, o3⟩ := ok
                refine ⟨_, rfl, qq, asq, x, rfl, C19.kp qq _ nqq.1 nqq.2.1 nqq.2.2 (s15 _ _ eq), C19.nine _ _ (N.same s15), fun H20 r1 s20 e20 n20 => ?_⟩
                refine ⟨.ref r1, .list (List.replicate 9 dv), rfl, .lst (SqL.of e20) (dq_rep (Dq.same s20 Dv) 9), o1, o2, Nat.le_trans o3 (by decide), ?_⟩
                refine ⟨_, rfl, (by show 1 ≤ sizeLine; decide), fun w1' h21 => ?_⟩
                generalize g21 : upd _ w1' _ = H21
                obtain ⟨s21, e21, _⟩ := laid g21 h21
                refine ⟨w1', 9, _, rfl, rfl, e21, by decide, by decide, (by show 1 * 9 ≤ sizeLine; decide), fun w2' h22 => ?_⟩
                generalize g22 : upd _ w2' _ = H22
                obtain ⟨s22, e22, _⟩ := laid g22 h22
                have t22 := s20.trans (s21.trans s22)
                refine ⟨.ref w2', .list (List.replicate 9 dv), rfl, .lst (SqL.of e22) (dq_rep (Dq.same t22 Dv) 9), o1, o2, Nat.le_trans o3 (by decide), ?_⟩
                refine ⟨rfl, _, rfl, ?_⟩
                refine iteNS rfl ?_
                exact ⟨S19.same t22, t22 _ _ (C19.kp _ _ ntl.1 ntl.2.1 ntl.2.2 (s15 _ _ etl)), fun b hb => fr _ (none_old s15 (C19.no _ (none_old t22 hb))), t22 _ _ (C19.kp _ _ nel.1 nel.2.1 nel.2.2 (s15 _ _ eel)), t22 _ _ (C19.kp _ _ nq1.1 nq1.2.1 nq1.2.2 (s15 _ _ eq1)), t22 _ _ (C19.kp _ _ nq2.1 nq2.2.1 nq2.2.2 (s15 _ _ eq2)), (C19.nine _ _ (N1.same s15)).same t22, (C19.nine _ _ (N2.same s15)).same t22, _, _, _, _, rfl⟩
              · refine ⟨_, rfl, d, _, xd, DPut.k (k := Sum.inr "late") ed (by decide), ?_⟩
                have S19 := S18.put (u := .dK (putK [(.inr "a", .int 1), (.inr "late", .int 0)] (.inr "late") (.int 0))) (.inr rfl)
                have C19 := C18.upd (w := .dK (putK [(.inr "a", .int 1), (.inr "late", .int 0)] (.inr "late") (.int 0))) (.inr (.inr rfl)) ed (by simp)
                generalize upd H15 d (HO.dK (putK [(Sum.inr "a", V.int 1), (Sum.inr "late", V.int 0)] (Sum.inr "late") (V.int 0))) = H19 at S19 C19 ⊢
                obtain ⟨dv, hdv, Dv⟩ := S19.data (by omega) n0 n60 hxT
                have ok := all_ok dv hdv
                simp only [okD, Bool.and_eq_true, decide_eq_true_eq] at ok
                obtain ⟨o1, o2, o3⟩ := ok
                refine ⟨_, rfl, qq, asq, x, rfl, C19.kp qq _ nqq.1 nqq.2.1 nqq.2.2 (s15 _ _ eq), C19.nine _ _ (N.same s15), fun H20 r1 s20 e20 n20 => ?_⟩
                refine ⟨.ref r1, .list (List.replicate 9 dv), rfl, .lst (SqL.of e20) (dq_rep (Dq.same s20 Dv) 9), o1, o2, Nat.le_trans o3 (by decide), ?_⟩
                refine ⟨_, rfl, (by show 1 ≤ sizeLine; decide), fun w1' h21 => ?_⟩
                generalize g21 : upd _ w1' _ = H21
                obtain ⟨s21, e21, _⟩ := laid g21 h21
                refine ⟨w1', 9, _, rfl, rfl, e21, by decide, by decide, (by show 1 * 9 ≤ sizeLine; decide), fun w2' h22 => ?_⟩
                generalize g22 : upd _ w2' _ = H22
                obtain ⟨s22, e22, _⟩ := laid g22 h22
                have t22 := s20.trans (s21.trans s22)
                refine ⟨.ref w2', .list (List.replicate 9 dv), rfl, .lst (SqL.of e22) (dq_rep (Dq.same t22 Dv) 9), o1, o2, Nat.le_trans o3 (by decide), ?_⟩
                refine ⟨rfl, _, rfl, ?_⟩
                refine iteNS rfl ?_
                exact ⟨S19.same t22, t22 _ _ (C19.kp _ _ ntl.1 ntl.2.1 ntl.2.2 (s15 _ _ etl)), fun b hb => fr _ (none_old s15 (C19.no _ (none_old t22 hb))), t22 _ _ (C19.kp _ _ nel.1 nel.2.1 nel.2.2 (s15 _ _ eel)), t22 _ _ (C19.kp _ _ nq1.1 nq1.2.1 nq1.2.2 (s15 _ _ eq1)), t22 _ _ (C19.kp _ _ nq2.1 nq2.2.1 nq2.2.2 (s15 _ _ eq2)), (C19.nine _ _ (N1.same s15)).same t22, (C19.nine _ _ (N2.same s15)).same t22, _, _, _, _, rfl⟩
            · have S19 := S18
              have C19 := C18
              obtain ⟨dv, hdv, Dv⟩ := S19.data (by omega) n0 n60 hxT
              have ok := all_ok dv hdv
              simp only [okD, Bool.and_eq_true, decide_eq_true_eq] at ok
              obtain ⟨o1, o2, o3⟩ := ok
              refine ⟨_, rfl, qq, asq, x, rfl, C19.kp qq _ nqq.1 nqq.2.1 nqq.2.2 (s15 _ _ eq), C19.nine _ _ (N.same s15), fun H20 r1 s20 e20 n20 => ?_⟩
              refine ⟨.ref r1, .list (List.replicate 9 dv), rfl, .lst (SqL.of e20) (dq_rep (Dq.same s20 Dv) 9), o1, o2, Nat.le_trans o3 (by decide), ?_⟩
              refine ⟨_, rfl, (by show 1 ≤ sizeLine; decide), fun w1' h21 => ?_⟩
              generalize g21 : upd _ w1' _ = H21
              obtain ⟨s21, e21, _⟩ := laid g21 h21
              refine ⟨w1', 9, _, rfl, rfl, e21, by decide, by decide, (by show 1 * 9 ≤ sizeLine; decide), fun w2' h22 => ?_⟩
              generalize g22 : upd _ w2' _ = H22
              obtain ⟨s22, e22, _⟩ := laid g22 h22
              have t22 := s20.trans (s21.trans s22)
              refine ⟨.ref w2', .list (List.replicate 9 dv), rfl, .lst (SqL.of e22) (dq_rep (Dq.same t22 Dv) 9), o1, o2, Nat.le_trans o3 (by decide), ?_⟩
              refine ⟨rfl, _, rfl, ?_⟩
              refine iteNS rfl ?_
              exact ⟨S19.same t22, t22 _ _ (C19.kp _ _ ntl.1 ntl.2.1 ntl.2.2 (s15 _ _ etl)), fun b hb => fr _ (none_old s15 (C19.no _ (none_old t22 hb))), t22 _ _ (C19.kp _ _ nel.1 nel.2.1 nel.2.2 (s15 _ _ eel)), t22 _ _ (C19.kp _ _ nq1.1 nq1.2.1 nq1.2.2 (s15 _ _ eq1)), t22 _ _ (C19.kp _ _ nq2.1 nq2.2.1 nq2.2.2 (s15 _ _ eq2)), (C19.nine _ _ (N1.same s15)).same t22, (C19.nine _ _ (N2.same s15)).same t22, _, _, _, _, rfl⟩
      · obtain ⟨S, etl, fr, _, _, _, _, _, c5, c6, c7, c8, rfl⟩ := z
        exact ⟨S, etl, fr, _, _, _, _, _, rfl⟩
    · obtain ⟨S, etl, fr, c4, c5, c6, c7, c8, rfl⟩ := z
      exact ⟨S.scr, _, _, _, _, _, _, _, _, rfl⟩

end
end K61

namespace K61
open PySem PySem.Spec PyProof.Rows L2 Gx
abbrev R : PySem.W.OpenRow := PySem.W.OpenLaw.row PySem.Challenge.rw_dugdays_k61_errors_by_hand
abbrev hk : PySem.W.Hook := hookY 6 fa fn ex
def ob (s : PySem.W.SharedT) : He.AlD × Bool := obY 6 fa fn ex (HandSHeadRun.getT s)
theorem ob_eq (s : PySem.W.SharedT) : ob s = hk.obs s.abs := obY_eq (HandSHeadRun.getT_eq s)
def loose : List Str := ["_law_source", "_law_draw", "_law_pick", "_law_kinds", "_law_by_place", "_law_by_name", "_law_stored", "BadThings", "BadWeathers", "BadWeather", "BadPacking", "NotNow", "BadTrip", "BadClue", "TooFar", "BadText", "DigError", "__name__"]
set_option maxHeartbeats 0 in
theorem run (w : World) : HandSHeadRun.RunEq R (PySem.W.view R.prog [19]) hk ob 20000 loose w := by
  intro os
  kernel_rfl
end K61
open PySem PySem.W PySem.Calls PyProof.Rows
set_option maxRecDepth 100000 in
set_option maxHeartbeats 0 in
theorem PySem.Challenge.cw_dugdays_k61_errors_by_hand_holds : PySem.Challenge.rw_dugdays_k61_errors_by_hand.Holds := by
  w_on; o_law
  refine HandSHeadRun.head_any (r := OpenLaw.row PySem.Challenge.rw_dugdays_k61_errors_by_hand) (q := view (OpenLaw.row PySem.Challenge.rw_dugdays_k61_errors_by_hand).prog [19]) (H := K61.hk) (ob := K61.ob) (M := 20000) (loose := K61.loose)
    (d := HandSHeadRun.topDef (OpenLaw.row PySem.Challenge.rw_dugdays_k61_errors_by_hand).prog 19) (kwd := []) K61.ob_eq (by kernel_rfl) (fun s => by kernel_rfl) K61.run (by kernel_rfl) (by kernel_rfl) (by kernel_rfl) (by rfl) (by first | assumption | decide +kernel) (by decide +kernel) ⟨rfl, rfl, rfl, rfl, rfl, by decide +kernel⟩ ?hw ?hc
  case hw => w_witness2
  case hc =>
    refine Gx.walk_G (l := PySem.Challenge.rw_dugdays_k61_errors_by_hand) (k := 5) (x := "script") (CX := fun _ => L2.CX0) rfl (by kernel_rfl) ⟨rfl, by decide, by decide⟩ ?F (fun _ _ _ _ _ z => z)
    intro w mg fa h Y G hmg0
    obtain ⟨K, KX, c⟩ := Y
    have F : K61.Facts K mg := ⟨c, h, KX, G⟩
    have hmg : mg ("law" : PySem.Str) = some (.ref fa) := by
      have e : (HandSHeadRun.topDef (OpenLaw.row PySem.Challenge.rw_dugdays_k61_errors_by_hand).prog 19).name = ("law" : PySem.Str) := by kernel_rfl
      rw [← e]
      exact hmg0
    have e := hmg.symm.trans (K61.g_law F)
    cases e
    obtain ⟨fd, D⟩ := K61.fun_law F
    exact ⟨K, fd, K61.spLaw K, KX, fun s u => D.bindsA (ps := ["script"]) (fun _ _ _ _ _ _ us hl => match us, hl with | [_], _ => rfl) s [u] rfl, fun H a ns h1 h2 h3 => ⟨a, ns, rfl, h3, h1, h2, fun _ => rfl⟩, fun base _ _ => K61.fn_law F D⟩

