import PyProof.Rows.All
import Wide.All
import OpenK.AllK
import Wide.FinOn
import PyProof.ReprRoads
import HandS.ForMost
import HandS.Exc
import HandS.TryOnly
import HandS.ExcOwn
import HandS.WordsExc
import HandS.Wide
import HandS.EndBits
import HandS.Defaults
import HandS.ExcInit
import HandS.ExcIs
import HandS.ExcField
import HandS.IsInst
import HandS.Property
import HandS.OwnEq
import HandS.DictComp
import HandS.DeepEq
import HandS.Strs
import HandS.Head0
import HandS.Head1
import HandS.Head2
import HandS.HeadEnd
import HandS.HeadHook1
import HandS.HeadHook2
import HandS.HeadHook4
import HandS.Walk
import HandS.MakeKw
import KE.KExcIs
import PyProof.InstEq
import PyProof.InstNe
import HandS.Conv
import HandS.TupSets
import HandS.Finally
import HandS.Style
import PySem.Challenge.RW_dugdays_k02_menus_compared
set_option Elab.async false
set_option linter.all false
set_option maxRecDepth 100000
set_option maxHeartbeats 0
/-! Own rules, laid over the hand layer: powers of great ints, repr of data, defs that may call repr. -/
namespace Gx
open PySem PySem.Spec PyProof.Rows L2

/-! ### great powers -/
theorem bits_of_lt {a : Int} {k : Nat} (h : a.natAbs < 2 ^ k) : Builtin.Int.intBits a ≤ k := by
  unfold Builtin.Int.intBits
  split
  · omega
  · rename_i hz
    have hne : a.natAbs ≠ 0 := by
      intro z
      apply hz
      have : a = 0 := Int.natAbs_eq_zero.mp z
      rw [this]; rfl
    have := (Nat.log2_lt hne).mpr h
    omega
theorem lt_of_bits {a : Int} {k : Nat} (h : Builtin.Int.intBits a ≤ k) : a.natAbs < 2 ^ k := by
  unfold Builtin.Int.intBits at h
  split at h
  · rename_i hz
    have : a = 0 := by simpa using hz
    rw [this]
    exact Nat.two_pow_pos k
  · have h2 : a.natAbs < 2 ^ (a.natAbs.log2 + 1) := Nat.lt_log2_self
    exact Nat.lt_of_lt_of_le h2 (Nat.pow_le_pow_right (by decide) h)
def PowFits (i j : Int) : Prop := 0 ≤ j ∧ (Builtin.Int.intBits i : Int) * j ≤ 2 ^ 27
theorem op_powW {X : Cx} : OpR X (binaryOp .Pow) (rI PowFits fun i j => .int (i ^ j.toNat)) := opI fun _ _ _ _ _ _ _ hc q => pow_int hc.1 hc.2 q

/-! ### defs that may run into repr: no guard runs ahead of them -/
structure FnG (P : Program) (w : World) (K : PySem.W.Frag) (mg : Str → Option Value) (base : Heap) (CX : CXT) (k : Nat) (f : Addr) (fd : FuncData) (ps : List Str) (sp : Sp) : Prop where
  len : ∀ vs H Q E, sp vs H Q E → vs.length = ps.length
  go : ∀ (A : Around) (fr : List Env) (s : Shared) (H : Hp) (gs : Args) (us : List Value) (vs : List V) (Q : VK) (E : XK), A.guards = some [] → Room k A → Env0 P w K mg base A fr s H → BindsTo s fd gs (ps.zip us) → Vals vs us →
    sp vs H Q E → codeAny (model P w) A (.call (.ref f) gs) (CR CX fr P w H s Q E) s
section
variable {P : Program} {w : World} {K : PySem.W.Frag} {mg : Str → Option Value} {base : Heap} {CX : CXT}
theorem FnG.of {k : Nat} {f : Addr} {fd : FuncData} {ps : List Str} {sp : Sp} (F : FnOk P w K mg base CX k f fd ps sp) : FnG P w K mg base CX k f fd ps sp :=
  ⟨F.len, fun A fr s H gs us vs Q E _ => F.run A fr s H gs us vs Q E⟩
/-- such a def's body, walked in its frame -/
theorem FnG.body {x qual : Str} {params : Arguments} {body : List Stmt} {scope : Scope} {dvs : List V} {kws : List (Str × V)} {f : Addr} {fd : FuncData} {N ps : List Str} {k : Nat} {sp : Sp} (F : FunD K x qual params body scope dvs kws f fd) (S : FnScope N ps scope)
    (ln : ∀ vs H Q E, sp vs H Q E → vs.length = ps.length)
    (hb : ∀ (cdv : Value) (A : Around) (fr : List Env) (s : Shared) (H : Hp) (vs : List V) (Q : VK) (E : XK), (A.deeper (envOfC qual scope s.heap.objs.size f cdv)).guards = some [] → Room k (A.deeper (envOfC qual scope s.heap.objs.size f cdv)) → sp vs H Q E →
      ∃ t, PSs (cxOf CX P w K mg base N qual scope f cdv A fr s H E) body t ∧ t { nx := fun _ H' => Q .non H', rt := Q } (start N vs) H) : FnG P w K mg base CX (k + 1) f fd ps sp := by
  refine ⟨ln, fun A fr s H gs us vs Q E hg hr e0 bt rv hs => ?_⟩
  obtain ⟨oc, od, dV, kV, doc, pm, an, cdv, ct, sl, rfl, lk, cc, _, _⟩ := F.ex
  have lv := ln _ _ _ _ hs
  have KX : K.In s.heap := e0.mod.kin.keeps fun b o e => (e0.bs b o e).1
  have nl : s.heap.NoLimit := e0.mod.nolimit.keeps fun b o e => (e0.bs b o e).1
  have kd : ∀ y ∈ ps.zip us, scope.names.lookup y.1 = some .local ∨ (scope.names.lookup y.1 = some .cell ∧ ((cellsFrom (s.heap.objs.size + 1) scope.names []).lookup y.1).isSome = true) := by
    rintro ⟨n, v⟩ hy
    have := S.par n (List.of_mem_zip hy).1
    exact this.imp id fun q => ⟨q, PySem.W.cellsFrom_some _ _ _ (.inl q)⟩
  apply codeAny_call_function hr.depth (KX _ _ lk) rfl S.co S.gen rfl (PySem.W.codeRec_of KX cc) (bt _ _ _ _ _)
  apply wpAny_newFunctionEnv_cells S.kind kd
  intro env he s1 x
  cases he
  refine ⟨nl.keeps x.toInCall.keep, codeAny_func ?_⟩
  obtain ⟨t, ht, q⟩ := hb cdv A fr s H vs Q E hg (hr.deeper _) hs
  refine wpAny_mono (ht.run [] s1 (start N vs) H _ (inv_start S hr.hd e0 lv rv x) q) ?_ fun e s' z => z
  rintro (_ | _ | _ | u) s' z
  · obtain ⟨σ', H', J, q⟩ := z
    exact ⟨V.non, H', J.os, J.bare, J.base, J.hok, rfl, q⟩
  · obtain ⟨_, _, _, q⟩ := z
    exact False.elim q
  · obtain ⟨_, _, _, q⟩ := z
    exact False.elim q
  · obtain ⟨v, σ', H', J, r, q⟩ := z
    exact ⟨v, H', J.os, J.bare, J.base, J.hok, r, q⟩
end

/-! ### calls of such defs -/
section
variable {X : Cx} {CX : CXT} {k : Nat} {f : Addr} {fd : FuncData} {ps : List Str} {sp : Sp} {dvs : List V} {ds : List Value} {E : XK} {x : Str} {p pos : Pos} {e : Expr} {es : List Expr} {t : TA}
theorem pe_callG (F : FnG X.prog X.w X.K X.mg X.base CX k f fd ps sp) (hgd : X.A.guards = some []) (hr : Room k X.A) (hg : Gl X x) (hm : X.mg x = some (.ref f)) (hk : PySem.W.keepIn X.K (.ref f) = true) (hb : Binds X.K fd ps ds) (hd : Vals dvs ds) (hx : Passes CX X E)
    (ha : PA X (e :: es) t) (hdb : (x == ("__debug__" : Str)) = false := by decide) (he : starEach (e :: es) X.env = (false, eval e X.env) :: starEach es X.env := by rfl) (hpl : (backTo pos (starEach es X.env)).any (·.1) = false := by rfl) :
    PE X (.Call (.Name x p) (e :: es) [] pos) (tCall sp dvs E t) := by
  constructor
  intro pins s σ H Q I h
  apply wpAny_Call_Name_kw (ld_glob I hg hm ?_ hdb)
  refine PySem.W.callWith_K (h₀ := X.base) I.ok.mod.kin hk (thn (ha.run pos pins s σ H _ I h) ?_) he hpl
  rintro us s1 ⟨vs, H1, I1, r1, q1⟩
  refine ⟨I1.kIn, ?_⟩
  have r2 : Vals (vs ++ dvs) (us ++ ds) := r1.append hd
  have hl : (us ++ ds).length = ps.length := r2.length.symm.trans (F.len _ _ _ _ q1)
  apply wpAny_call
  refine codeAny_mono (F.go X.A X.stack s1 H1 ⟨us, []⟩ (us ++ ds) (vs ++ dvs) Q E hgd hr I1.env0 (hb s1 us I1.kIn hl) r2 q1) ?_
  rintro (er | (_ | _ | _ | u)) s' hq
  · exact hx pins σ H1 s1 er s' I1 hq
  · exact False.elim hq
  · exact False.elim hq
  · exact False.elim hq
  · exact I1.after hq
end

/-! ### the end of a law whose def may call repr; the script's bits are told -/
/-- the script: an object that is known and never written -/
def ScrAt (K : PySem.W.Frag) (H : Hp) (a : Addr) (ns : List Int) : Prop := (∃ o, H a = some (.frz o (.lst (ns.map V.int)))) ∨
  ∃ (o : Obj) (its : Array Value) (n : Nat), K.lookup a = some o ∧ o.cls = .type "list" ∧ o.dict = none ∧ o.data = .seq its n ∧ its.size ≤ sizeLine ∧ Vals (ns.map V.int) its.toList
theorem ScrAt.sq {K : PySem.W.Frag} {H : Hp} {a : Addr} {ns : List Int} (h : ScrAt K H a ns) : SqL K H a (ns.map V.int) := h.elim (fun h => .inl (.inr h)) .inr
theorem ScrAt.mono {K : PySem.W.Frag} {H H' : Hp} {a : Addr} {ns : List Int} (k : ∀ b o u, H b = some (.frz o u) → H' b = some (.frz o u)) (h : ScrAt K H a ns) : ScrAt K H' a ns := h.imp (fun ⟨o, e⟩ => ⟨o, k _ _ _ e⟩) id
theorem ScrAt.upd {K : PySem.W.Frag} {H : Hp} {a p : Addr} {ns : List Int} {u v : HO} (h : ScrAt K H a ns) (hp : H p = some u) (hn : ∀ o w, u ≠ .frz o w) : ScrAt K (upd H p v) a ns :=
  h.mono fun b o w e => by rw [upd_ne (ne_of e hp (Ne.symm (hn o w)))]; exact e
section
variable {P : Program} {w : World} {K : PySem.W.Frag} {mg mb : Str → Option Value} {CX : CXT} {k : Nat} {fa a : Addr} {fd : FuncData} {x : Str} {sp : Sp} {s₁ : Shared} {vs : List Value} {ns : List Int}
/-- the entry over an abstract heap that holds the script alone, or nothing -/
theorem enter_at (H : Hp) (KX : K.In s₁.heap) (n1 : s₁.heap.Ns mainGlobals mg) (n2 : s₁.heap.Ns builtinsNs mb) (bb : ∀ x : Str, x ≠ "__name__" → mb x = bootBuiltins x) (nl : s₁.heap.NoLimit) (hg : s₁.gens = #[]) (hr : Room k callerA)
    (obj : s₁.heap.get? a = some { cls := .type "list", data := .seq vs.toArray }) (hok : HOk P w H s₁.heap) (hA : ∀ b u, H b = some u → b = a ∧ K.lookup a = none ∧ ∃ o xs, u = .frz o (.lst xs))
    (F : ∀ base : Heap, K.In base → base.Ns mainGlobals mg → FnG P w K mg base CX k fa fd [x] sp) (hb : ∀ (s : Shared) (u : Value), BindsTo s fd ⟨[u], []⟩ [(x, u)]) (q : sp [.ref a] H (fun v _ => v = .bl true) fun _ _ _ => False)
    (hCX : ∀ H e s', CX [] H s₁ (fun _ _ _ => False) e s' → False) :
    codeAny (model P w) callerA (.call (.ref fa) ⟨[.ref a], []⟩) (fun r s' => r = .ok (.ret (.bool true)) ∧ OldK s₁.heap s'.heap ∧ s'.os = s₁.os ∧ AllBare s'.gens) s₁ := by
  have non : ∀ {b : Addr} {o : Obj}, s₁.heap.get? b = some o → (∀ vs' n, o.data ≠ .seq vs' n) → H b = none := fun {b o} e d => by
    rcases hq : H b with _ | u
    · rfl
    · have z := (hA b u hq).1
      subst z
      rw [obj] at e
      cases e
      exact absurd rfl (d _ _)
  have ns' : ∀ {b : Addr} {m : Str → Option Value}, s₁.heap.Ns b m → (hidT s₁.heap H).Ns b m := by
    rintro b m ⟨o, es, ep, e, d, r⟩
    exact ⟨o, es, ep, hidT_get e (non e fun v n z => by rw [d] at z; cases z), d, r⟩
  have kb : K.In (hidT s₁.heap H) := fun b o e => hidT_get (KX b o e) <| by
    rcases hq : H b with _ | u
    · rfl
    · obtain ⟨z, z2, _⟩ := hA b u hq
      rw [z, z2] at e
      cases e
  have M : Mod K mg (hidT s₁.heap H) := ⟨kb, ns' n1, ⟨mb, ns' n2, bb⟩, nl.elim fun mc h => ⟨mc, ns' h.1, h.2⟩⟩
  have e0 : Env0 P w K mg (hidT s₁.heap H) callerA [] s₁ H := ⟨rfl, M, fun b o e => of_hidT e, by rw [hidT_size]; exact Nat.le_refl _, trivial, fun b z => absurd z (by simp [frs]), hok, .of_eq hg⟩
  refine codeAny_mono ((F _ kb (ns' n1)).go callerA [] s₁ H ⟨[.ref a], []⟩ [.ref a] [.ref a] _ _ rfl hr e0 (hb s₁ _) (.cons rfl .nil) q) ?_
  rintro (er | (_ | _ | _ | u)) s' h
  · exact (hCX H er s' h).elim
  · exact False.elim h
  · exact False.elim h
  · exact False.elim h
  · obtain ⟨v, H', os, bare, un, hok', r, ev⟩ := h
    subst ev
    cases (show u = Value.bool true from r)
    refine ⟨rfl, OldK.of_keep fun b o e => ?_, os, bare⟩
    rcases hq : H b with _ | u
    · exact un.keep b o e hq (by simp [frs]) (by simp)
    · obtain ⟨_, _, ob, xs, rfl⟩ := hA b u hq
      have h1 := (hok b _ hq).1
      have h2 := (hok' b _ (un.frzs b ob _ hq)).1
      rw [e] at h1
      cases h1
      exact h2
theorem enter_law (KX : K.In s₁.heap) (n1 : s₁.heap.Ns mainGlobals mg) (n2 : s₁.heap.Ns builtinsNs mb) (bb : ∀ x : Str, x ≠ "__name__" → mb x = bootBuiltins x) (nl : s₁.heap.NoLimit) (hg : s₁.gens = #[]) (hr : Room k callerA)
    (obj : s₁.heap.get? a = some { cls := .type "list", data := .seq vs.toArray }) (hi : IntsAre vs ns) (hl : ns.length ≤ sizeLine)
    (F : ∀ base : Heap, K.In base → base.Ns mainGlobals mg → FnG P w K mg base CX k fa fd [x] sp) (hb : ∀ (s : Shared) (u : Value), BindsTo s fd ⟨[u], []⟩ [(x, u)])
    (q : ∀ H : Hp, ScrAt K H a ns → sp [.ref a] H (fun v _ => v = .bl true) fun _ _ _ => False) (hCX : ∀ H e s', CX [] H s₁ (fun _ _ _ => False) e s' → False) :
    codeAny (model P w) callerA (.call (.ref fa) ⟨[.ref a], []⟩) (fun r s' => r = .ok (.ret (.bool true)) ∧ OldK s₁.heap s'.heap ∧ s'.os = s₁.os ∧ AllBare s'.gens) s₁ := by
  have rv := vals_ints hi
  rcases hk : K.lookup a with _ | o
  · have at_a : (if a = a then some (HO.frz { cls := .type "list", data := .seq vs.toArray } (.lst (ns.map V.int))) else none) = some (HO.frz { cls := .type "list", data := .seq vs.toArray } (.lst (ns.map V.int))) := if_pos rfl
    refine enter_at (fun b => if b = a then some (.frz { cls := .type "list", data := .seq vs.toArray } (.lst (ns.map V.int))) else none) KX n1 n2 bb nl hg hr obj (fun b u z => ?_) (fun b u z => ?_) F hb (q _ (.inl ⟨_, at_a⟩)) hCX
    · by_cases hb' : b = a
      · subst hb'
        cases at_a.symm.trans z
        exact ⟨obj, by rw [List.length_map]; exact hl, vs, 0, rv, obj⟩
      · cases (if_neg hb').symm.trans z
    · by_cases hb' : b = a
      · subst hb'
        cases at_a.symm.trans z
        exact ⟨rfl, hk, _, _, rfl⟩
      · cases (if_neg hb').symm.trans z
  · have e := KX a o hk
    rw [obj] at e
    cases e
    refine enter_at (fun _ => none) KX n1 n2 bb nl hg hr obj (fun b u z => by cases z) (fun b u z => by cases z) F hb (q _ (.inr ⟨_, vs.toArray, _, hk, rfl, rfl, rfl, ?_, by simpa using rv⟩)) hCX
    rw [List.size_toArray, hi.length]
    exact hl
end
theorem walk_G {l : PySem.W.OpenLaw} {k : Nat} {q : Program} {loose : List Str} {XP : (Str → Option Value) → Heap → Prop} {YP : World → Heap → Prop} {d : DefRec} {CX : World → CXT} {x : Str} (hn : l.most = some 63) (hdf : d.params.defaults = []) (hr : Room k callerA)
    (F : ∀ (w : World) (mg : Str → Option Value) (fa : Addr) (h : Heap), YP w h → h.Ns mainGlobals mg → mg d.name = some (.ref fa) → ∃ (K : PySem.W.Frag) (fd : FuncData) (sp : Sp), K.In h ∧ (∀ (s : Shared) (u : Value), BindsTo s fd ⟨[u], []⟩ [(x, u)]) ∧
      (∀ (H : Hp) (a : Addr) (ns : List Int), ns.length ≤ 63 → (∀ z ∈ ns, Builtin.Int.intBits z ≤ 1048576) → ScrAt K H a ns → sp [.ref a] H (fun v _ => v = .bl true) fun _ _ _ => False) ∧
        ∀ base : Heap, K.In base → base.Ns mainGlobals mg → FnG l.prog w K mg base (CX w) k fa fd [x] sp)
    (hCX : ∀ (w : World) (H : Hp) (s : Shared) (e : Value) (s' : Shared), CX w [] H s (fun _ _ _ => False) e s' → False) : PySem.W.WalkO q loose XP YP l.row.toRowW d [] (fun f vs => PySem.call f vs) := by
  refine Att.attach_callB hn hdf ?_
  intro w s₀ s₁ mg mb fa o pm cd doc a vs ns G Y ho hd hcd hmg hobj hints hlen hbits hg
  obtain ⟨K, fd, sp, KX, hb, hsp, hF⟩ := F w mg fa _ Y G.T.g hmg
  exact enter_law KX G.T.g G.T.b G.T.builtins G.T.nolimit hg hr hobj hints (Nat.le_trans hlen (by decide)) hF hb (fun H hS => hsp H a ns hlen hbits hS) fun H => hCX w H s₁

/-! ### the head's look: the facts of defs and classes, one more Bool, and that sys.modules stands where it stands -/
def frY (g : Addr → Option Obj) (n : Nat) : PySem.W.Frag := He.frG g (sysModules :: He.asD g n)
/-- sys.modules is written, and is no list -/
def SysOk (K : PySem.W.Frag) : Prop := ∃ o, K.lookup sysModules = some o ∧ o.cls ≠ .type "list"
def sysB (K : PySem.W.Frag) : Bool := match K.lookup sysModules with
  | some o => !decide (o.cls = .type "list")
  | none => false
theorem sysB_ok {K : PySem.W.Frag} (h : sysB K = true) : SysOk K := by
  unfold sysB at h
  rcases e : K.lookup sysModules with _ | o
  · rw [e] at h
    cases h
  · rw [e] at h
    exact ⟨o, e, of_decide_eq_false (by simpa using h)⟩
def obY (n : Nat) (fa : List He.Fa) (fn : List He.DefD) (ex : PySem.W.Frag → Bool) (g : Addr → Option Obj) : He.AlD × Bool := (He.obsD fa fn (frY g n), ex (frY g n) && sysB (frY g n))
structure SaysY (fa : List He.Fa) (fn : List He.DefD) (ex : PySem.W.Frag → Bool) (K : PySem.W.Frag) : Prop where
  d : He.SaysD fa fn K
  e : ex K = true
  m : SysOk K
def hookY (n : Nat) (fa : List He.Fa) (fn : List He.DefD) (ex : PySem.W.Frag → Bool) : PySem.W.Hook where
  α := He.AlD × Bool
  obs := fun s => obY n fa fn ex s.heap.get?
  val := fun _ => (He.valD fn, true)
  says := fun _ h => ∃ K : PySem.W.Frag, K.In h ∧ SaysY fa fn ex K
  of := fun _ _ e => ⟨_, He.frG_in, congrArg Prod.fst e, (He.ba (congrArg Prod.snd e)).1, sysB_ok (He.ba (congrArg Prod.snd e)).2⟩
  keeps := fun _ _ _ ⟨K, hK, c⟩ k => ⟨K, PySem.W.Frag.In.keeps hK k, c⟩
theorem obY_eq {n : Nat} {fa : List He.Fa} {fn : List He.DefD} {ex : PySem.W.Frag → Bool} {g : Addr → Option Obj} {s : Shared} (h : ∀ a, g a = s.heap.get? a) : obY n fa fn ex g = (hookY n fa fn ex).obs s := by
  have e : g = s.heap.get? := funext h
  rw [e]
  rfl
end Gx

namespace Gx
open PySem PySem.Spec PyProof.Rows L2

/-! ### data of any depth, dicts too -/
def kD : Key → PyData
  | .inl i => .int i
  | .inr x => .str x
mutual
inductive Dq (K : PySem.W.Frag) (H : Hp) : V → PyData → Prop
  | non : Dq K H .non .none
  | bl (b : Bool) : Dq K H (.bl b) (.bool b)
  | int (i : Int) : Dq K H (.int i) (.int i)
  | str (x : Str) : Dq K H (.str x) (.str x)
  | lst {a : Addr} {xs : List V} {ds : List PyData} : SqL K H a xs → DqAll K H xs ds → Dq K H (.ref a) (.list ds)
  | tup {a : Addr} {xs : List V} {ds : List PyData} : SqT K H a xs → DqAll K H xs ds → Dq K H (.ref a) (.tuple ds)
  | dic {a : Addr} {kvs : List (Key × V)} {ds : List PyData} : H a = some (.dK kvs) → DqAll K H (kvs.map (·.2)) ds → Dq K H (.ref a) (.dict ((kvs.map fun p => kD p.1).zip ds))
inductive DqAll (K : PySem.W.Frag) (H : Hp) : List V → List PyData → Prop
  | nil : DqAll K H [] []
  | cons {v : V} {vs : List V} {d : PyData} {ds : List PyData} : Dq K H v d → DqAll K H vs ds → DqAll K H (v :: vs) (d :: ds)
end
theorem DqAll.length {K : PySem.W.Frag} {H : Hp} : ∀ {vs : List V} {ds : List PyData}, DqAll K H vs ds → vs.length = ds.length
  | [], _, h => by cases h; rfl
  | _ :: _, _, h => by
    cases h with
    | cons _ h2 => simp [DqAll.length h2]
theorem zip_fst {α β : Type} : ∀ {xs : List α} {ys : List β}, xs.length = ys.length → (xs.zip ys).map (·.1) = xs
  | [], _, _ => rfl
  | x :: xs, [], h => by simp at h
  | x :: xs, y :: ys, h => by simp [zip_fst (xs := xs) (ys := ys) (by simpa using h)]
theorem zip_snd {α β : Type} : ∀ {xs : List α} {ys : List β}, xs.length = ys.length → (xs.zip ys).map (·.2) = ys
  | [], ys, h => by cases ys <;> simp at h ⊢
  | x :: xs, [], h => by simp at h
  | x :: xs, y :: ys, h => by simp [zip_snd (xs := xs) (ys := ys) (by simpa using h)]
theorem reads_key {h : Heap} {k : Key} {v : Value} (e : keyIs k v = true) : Reads h v (kD k) [] := by
  rcases keyIs_shape e with ⟨i, t, rfl, rfl⟩ | ⟨x, t, rfl, rfl⟩
  · exact .int i t
  · exact .str x t
theorem reads_keys {P : Program} {w : World} {h : Heap} : ∀ {es : List DictEntry} {kvs : List (Key × Value)}, PySem.Pairs (mixKind P w) es kvs → ReadsAll h (es.map (·.key)) (kvs.map fun p => kD p.1) []
  | _, _, .nil => .nil
  | _, _, .cons e _ t => .cons (as := []) (bs := []) (reads_key e) (reads_keys t)
theorem pairs_vals {P : Program} {w : World} : ∀ {es : List DictEntry} {kvs : List (Key × Value)}, PySem.Pairs (mixKind P w) es kvs → es.map (·.val) = kvs.map (·.2)
  | _, _, .nil => rfl
  | _, _, .cons _ e t => by simp [e, pairs_vals t]
theorem kv_snd {kvs : List (Key × V)} {vs : List (Key × Value)} (r : KV kvs vs) : Vals (kvs.map (·.2)) (vs.map (·.2)) := by
  unfold KV at r
  induction r with
  | nil => exact .nil
  | cons h _ ih => exact .cons h.2 ih
theorem kv_fst {kvs : List (Key × V)} {vs : List (Key × Value)} (r : KV kvs vs) : kvs.map (fun p => kD p.1) = vs.map (fun p => kD p.1) := by
  unfold KV at r
  induction r with
  | nil => rfl
  | cons h _ ih => simp only [List.map_cons, h.1, ih]
section
variable {X : Cx} {pins : List (Addr × Obj)} {σ : L2.St} {H : Hp} {s : Shared}
theorem sys_free (I : Inv X pins σ H s) (hS : SysOk X.K) : H sysModules = none := by
  obtain ⟨o, ho, _⟩ := hS
  exact (I.bs _ o (I.ok.mod.kin _ _ ho)).2
theorem ne_sys (I : Inv X pins σ H s) (hS : SysOk X.K) {a : Addr} {o : HO} (h : H a = some o) : a ≠ sysModules := fun z => by
  rw [z, sys_free I hS] at h
  cases h
mutual
theorem Dq.reads (I : Inv X pins σ H s) (hS : SysOk X.K) : ∀ {v : V} {d : PyData} {u : Value}, Dq X.K H v d → RelV v u → ∃ as, sysModules ∉ as ∧ Reads s.heap u d as
  | _, _, _, .non, r => by cases r; exact ⟨_, by simp, .none⟩
  | _, _, _, .bl b, r => by cases r; exact ⟨_, by simp, .bool b⟩
  | _, _, _, .int i, r => by obtain ⟨t, rfl⟩ := r; exact ⟨_, by simp, .int i t⟩
  | _, _, _, .str x, r => by obtain ⟨t, rfl⟩ := r; exact ⟨_, by simp, .str x t⟩
  | _, _, _, .lst (a := a) hs ha, r => by
    cases r
    obtain ⟨its, rv, ⟨o, n, ho, hc, _, hd⟩, _⟩ := I.list hs
    obtain ⟨as, h0, hr⟩ := DqAll.reads I hS ha rv
    refine ⟨_, ?_, Reads.list ho hc hd hr⟩
    rw [List.mem_cons]
    rintro (z | z)
    · rcases hs with (q | ⟨_, q⟩) | ⟨o', _, _, q, qc, _⟩
      · exact ne_sys I hS q z.symm
      · exact ne_sys I hS q z.symm
      · rw [← z] at q
        obtain ⟨o2, q2, nl⟩ := hS
        rw [q] at q2
        cases q2
        exact nl qc
    · exact h0 z
  | _, _, _, .tup hs ha, r => by
    cases r
    obtain ⟨its, rv, ⟨o, ho, hc, n, hd⟩, _⟩ := I.tuple hs
    obtain ⟨as, h0, hr⟩ := DqAll.reads I hS ha rv
    exact ⟨_, h0, Reads.tuple ho hc hd hr⟩
  | _, _, _, .dic (a := a) (kvs := kvs) e ha, r => by
    cases r
    obtain ⟨_, hm, vs, rv, o, es, ep, ho, hx, hd, _, hp, _⟩ := (show ObjOk X.prog X.w H s.heap a (.dK kvs) from I.hok a _ e)
    obtain ⟨as, h0, hr⟩ := DqAll.reads I hS ha (kv_snd rv)
    have hl := ha.length
    rw [List.length_map] at hl
    replace hl := (List.length_map (as := kvs) (f := fun p => kD p.1)).trans hl
    refine ⟨a :: [] ++ as, ?_, Reads.dict ho hx.1 hd ?_ ?_⟩
    · intro z
      rcases List.mem_cons.mp z with z | z
      · rw [← z] at hm
        exact absurd hm (by decide)
      · exact h0 z
    · rw [zip_fst hl, kv_fst rv]
      exact reads_keys hp
    · rw [zip_snd hl, pairs_vals hp]
      exact hr
theorem DqAll.reads (I : Inv X pins σ H s) (hS : SysOk X.K) : ∀ {vs : List V} {ds : List PyData} {us : List Value}, DqAll X.K H vs ds → Vals vs us → ∃ as, sysModules ∉ as ∧ ReadsAll s.heap us ds as
  | _, _, _, .nil, r => by cases r; exact ⟨_, by simp, .nil⟩
  | _, _, _, .cons h1 h2, r => by
    cases r with
    | cons r1 r2 =>
      obtain ⟨as, n1, q1⟩ := Dq.reads I hS h1 r1
      obtain ⟨bs, n2, q2⟩ := DqAll.reads I hS h2 r2
      refine ⟨_, ?_, .cons q1 q2⟩
      rw [List.mem_append]
      exact fun z => z.elim n1 n2
end
end
end Gx

namespace Gx
open PySem PySem.Spec PyProof.Rows L2

/-! ### repr -/
section
variable {X : Cx}
def rRepr (K : PySem.W.Frag) : List V → Hp → VK → Prop := fun xs H Q => ∃ x d, xs = [x] ∧ Dq K H x d ∧ d.showable = true ∧ d.depth ≤ 60 ∧ d.shown.length ≤ sizeLine ∧ Q (.str d.shown) H
theorem call_repr (hS : SysOk X.K) (hg : X.A.guards = some []) (hu : X.A.units + 64 < cLine) : CallR X (.builtin "repr") (rRepr X.K) := by
  intro pins s σ H xs us Q I r h
  obtain ⟨x, d, rfl, hd, hs, hdep, hz, q⟩ := h
  obtain ⟨u, rfl, ru⟩ := vals1 r
  have fin : ∀ (h' : Heap) (t : Tok) (tk : Nat), (∀ b o, s.heap.get? b = some o → h'.get? b = some o) → EP X pins σ Q (.str d.shown t) { s with heap := h', toks := tk } := fun h' t tk k => ⟨.str d.shown, H, I.kept k, ⟨t, rfl⟩, q⟩
  cases hd with
  | non => cases ru; simp only [PyData.shown] at fin; exact PySem.P.repr_of_none (fin s.heap _ _ fun _ _ e => e)
  | bl b => cases ru; simp only [PyData.shown] at fin; exact PySem.P.repr_of_bool (fin s.heap _ _ fun _ _ e => e)
  | int i =>
    obtain ⟨t, rfl⟩ := ru
    simp only [PyData.shown] at fin
    exact PySem.P.repr_of_int (by simpa [PyData.showable] using hs) (fin s.heap _ _ fun _ _ e => e)
  | str y =>
    obtain ⟨t, rfl⟩ := ru
    simp only [PyData.shown] at fin hz
    exact PySem.P.repr_of_str (fin s.heap _ _ fun _ _ e => e) hz
  | @lst a ys ds h1 h2 =>
    obtain ⟨as, n, rd⟩ := Dq.reads I hS (.lst h1 h2) ru
    cases ru
    exact repr_of_reads' rd hs (fun _ => n) hg (by omega) (fun _ _ e => e) (fun h' t tk k => fin h' t tk k) hz
  | @tup a ys ds h1 h2 =>
    obtain ⟨as, n, rd⟩ := Dq.reads I hS (.tup h1 h2) ru
    cases ru
    exact repr_of_reads' rd hs (fun _ => n) hg (by omega) (fun _ _ e => e) (fun h' t tk k => fin h' t tk k) hz
  | @dic a kvs ds h1 h2 =>
    obtain ⟨as, n, rd⟩ := Dq.reads I hS (.dic h1 h2) ru
    cases ru
    exact repr_of_reads' rd hs (fun _ => n) hg (by omega) (fun _ _ e => e) (fun h' t tk k => fin h' t tk k) hz
end

/-! ### an exception of an own class as a value: made, by place and by name; asked for its class; its field read -/
/-- at a: an exception of the class at C whose one field f holds v; d is its dict -/
def ExV (H : Hp) (a C : Addr) (f : Str) (v : V) : Prop := ∃ d, H a = some (exo a C (some d)) ∧ H d = some (exd d [(f, v)])
theorem ExV.mono {H H' : Hp} {a C : Addr} {f : Str} {v : V} (k : ∀ b o, H b = some o → H' b = some o) (h : ExV H a C f v) : ExV H' a C f v := by
  obtain ⟨d, h1, h2⟩ := h
  exact ⟨d, k _ _ h1, k _ _ h2⟩
/-- the promise of such an __init__(self, f): self.f = f -/
def spExI (C : Addr) (f : Str) : Sp := fun vs H Q _ => ∃ (a : Addr) (v : V), vs = [.ref a, v] ∧ H a = some (exo a C none) ∧ ∀ d, H d = none → d ≠ a → Q .non (upd (upd H d (exd d [(f, v)])) a (exo a C (some d)))

end Gx
namespace GxE
open PySem PySem.W PySem.HandSPX PySem.Calls
section
variable {prog : Program} {w : World} {A : Around} {E : Value → Shared → Prop} {R : Result → Shared → Prop} {hp : Heap} {gn : Array GenState} {dr : Drawn} {tk : Nat} {os : OsState}
variable {nm q : Str} {C N fI : Addr} {bs bm tl : List Value} {hdct ab : Bool} {sn : List Str} {sub : List Value} {col : Option Bool} {dd : Option Addr} {k0 k1 k2 k3 k5 : Option Value} {B nI iI : String} {xs : List Value} {kw : List (Str × Value)}
/-- what BaseException.__new__ leaves: the tuple of the positional values, the exception -/
abbrev laidE (hp : Heap) (C : Addr) (xs : List Value) : Heap := (hp.push (kdv_tup xs)).push (excO C hp.objs.size)
theorem newK (F : ExcBaseFacts B nI iI tl) (eq : ∀ Y : String, bm.contains (.type Y) = tl.contains (.type Y)) (at_C : hp.get? C = some (excClassObj nm q C N bs bm hdct sn sub ab col dd k0 k1 k2 k3 k5 nI)) (fit : xs.length ≤ sizeLine)
    (post : R (.ok (.ret (.ref (hp.objs.size + 1)))) ⟨laidE hp C xs, gn, dr, tk, os⟩) : codeAny (model prog w) A (.builtin nI ⟨.ref C :: xs, kw⟩) R ⟨hp, gn, dr, tk, os⟩ := by
  have z0 := F.ends
  have zB : (Value.ref C :: bm).contains (.type B) = true := by rw [List.contains_cons, eq, F.hasB, Bool.or_true]
  have zA : (Value.ref C :: bm).contains (.type "AttributeError") = false := by rw [List.contains_cons, eq, F.noAttr]; rfl
  have zN : (Value.ref C :: bm).contains (.type "NameError") = false := by rw [List.contains_cons, eq, F.noName]; rfl
  apply codeAny_builtinAt F.entry
  unfold Builtin.«BaseException.__new__»
  refine wpAt_bind ?_
  show wpAt _ _ _ (stack >>= _) _ _ _
  refine wpAt_bind (wpAt_stack fun p below => wpAt_of_wpAny ?_)
  wp_walk
  refine wpAt_of_wpAny ?_
  rw [F.owner]
  repeat (first
    | with_reducible refine wpAny_madeHere_exc F.canon at_C ?_
    | with_reducible refine wpAny_loadPart_at at_C ?_
    | (with_reducible refine wpAny_isSubtype_exc at_C ?_; first | rw [zB] | rw [zA] | rw [zN])
    | wp_step)
  show R _ _
  rw [Heap.size_push]
  exact post
theorem checkNewK (F : ExcBaseFacts B nI iI tl) (eq : ∀ Y : String, bm.contains (.type Y) = tl.contains (.type Y)) (at_C : hp.get? C = some (excClassObj nm q C N bs bm hdct sn sub ab col dd k0 k1 k2 k3 k5 nI)) {Q : Unit → Shared → Prop}
    (post : Q () ⟨hp, gn, dr, tk, os⟩) : wpAny (model prog w) A (checkBuiltinCall nI ⟨.ref C :: xs, kw⟩) Q E ⟨hp, gn, dr, tk, os⟩ := by
  have zB : (Value.ref C :: bm).contains (.type B) = true := by rw [List.contains_cons, eq, F.hasB, Bool.or_true]
  have z0 := F.noStar
  simp only [checkBuiltinCall, F.newKind, F.newSplit, F.newRow]
  repeat (first
    | refine wpAny_loadPart_at at_C ?_
    | (refine wpAny_isSubtype_exc at_C ?_; rw [zB])
    | refine wpAny_staticBase_exc at_C ?_
    | refine wpAny_madeBy_exc at_C ?_
    | simp only [bne_self_eq_false, Bool.false_eq_true, if_false]
    | wp_step)
  exact post
end
end GxE

namespace GxE
open PySem PySem.W PySem.HandSPX PySem.Calls
section
variable {prog : Program} {w : World} {A : Around} {E : Value → Shared → Prop} {R : Result → Shared → Prop} {hp : Heap} {gn : Array GenState} {dr : Drawn} {tk : Nat} {os : OsState}
variable {nm q : Str} {C N fI : Addr} {bs bm tl : List Value} {hdct ab : Bool} {sn : List Str} {sub : List Value} {col : Option Bool} {dd : Option Addr} {k0 k1 k2 k3 k5 : Option Value} {B nI iI : String} {xs : List Value} {kw : List (Str × Value)}
theorem checkTypeK (at_C : hp.get? C = some (excClassObj nm q C N bs bm hdct sn sub ab col dd k0 k1 k2 k3 k5 nI)) {Q : Unit → Shared → Prop} (post : Q () ⟨hp, gn, dr, tk, os⟩) :
    wpAny (model prog w) A (checkBuiltinCall "type.__call__" ⟨.ref C :: xs, kw⟩) Q E ⟨hp, gn, dr, tk, os⟩ := by
  have z3 := tc_sub
  have ty : (⟨hp, gn, dr, tk, os⟩ : Shared).TypeIs (.ref C) "type" := ⟨_, at_C, rfl⟩
  simp only [checkBuiltinCall, tc_kind, tc_split]
  repeat (any_goals (first
    | assumption
    | with_reducible refine wpAny_loadPart_at at_C ?_
    | with_reducible refine wpAny_onRaise ?_
    | with_reducible refine wpAny_map ?_
    | wp_step))
theorem typeCallK (F : ExcBaseFacts B nI iI tl) (eq : ∀ Y : String, bm.contains (.type Y) = tl.contains (.type Y)) (at_C : hp.get? C = some (excClassObj nm q C N bs bm hdct sn sub ab col dd k0 k1 k2 k3 k5 nI)) (fit : xs.length ≤ sizeLine)
    (li : Looks (model prog w) hp (typeLookup (.ref C) "__init__") (some (.ref fI))) (lb : ∀ self, Looks (model prog w) hp (bindSpecial (.ref fI) self) (.ref fI, [self])) {Q : Fin → Shared → Prop}
    (run : codeAny (model prog w) A (.call (.ref fI) ⟨.ref (hp.objs.size + 1) :: xs, kw⟩)
      (fun r s' => match r with | .ok (.ret v) => v = .none ∧ Q (.done (.ret (.ref (hp.objs.size + 1)))) s' | .ok _ => False | .error e => E e s') ⟨laidE hp C xs, gn, dr, tk, os⟩) :
    wpAny (model prog w) A (Builtin.«type.__call__» ⟨.ref C :: xs, kw⟩) Q E ⟨hp, gn, dr, tk, os⟩ := by
  repeat (first
    | with_reducible refine wpAny_loadPart_at at_C ?_
    | with_reducible refine wpAny_madeBy_exc at_C ?_
    | wp_step)
  refine codeAny_call_builtin_code (Code.quiet_builtin _ F.quiet) (checkNewK F eq at_C (newK F eq at_C fit ?_))
  show wpAny _ _ _ _ _ _
  have more : ∀ b o, hp.get? b = some o → (laidE hp C xs).get? b = some o := fun b o e => Heap.get?_push_of_some _ (Heap.get?_push_of_some _ e)
  have at_C2 := more _ _ at_C
  have at_e : (laidE hp C xs).get? (hp.objs.size + 1) = some (excO C hp.objs.size) := by heap_get
  have zC : (Value.ref C :: bm).contains (.ref C) = true := by simp
  have li2 := li.keeps more
  have lb2 := (lb (.ref (hp.objs.size + 1))).keeps more
  unfold isInstance
  repeat (first
    | with_reducible refine wpAny_loadPart_at at_e ?_
    | (with_reducible refine wpAny_isSubtype_exc at_C2 ?_; rw [zC])
    | wp_step)
  show wpAny _ _ (typeLookup (.ref C) _) _ _ _
  refine li2.at (wpAny_holding (wpAny_bind (lb2.at ?_)))
  apply wpAny_bind
  apply wpAny_call
  refine codeAny_mono run ?_
  rintro (e | (_ | _ | _ | v)) s' z
  · exact z
  · exact z.elim
  · exact z.elim
  · exact z.elim
  · obtain ⟨rfl, z⟩ := z
    first
      | exact wpAny_pure (wpAny_pure z)
      | (wp_walk; exact z)
theorem callK (F : ExcBaseFacts B nI iI tl) (eq : ∀ Y : String, bm.contains (.type Y) = tl.contains (.type Y)) (at_C : hp.get? C = some (excClassObj nm q C N bs bm hdct sn sub ab col dd k0 k1 k2 k3 k5 nI)) (fit : xs.length ≤ sizeLine)
    (li : Looks (model prog w) hp (typeLookup (.ref C) "__init__") (some (.ref fI))) (lb : ∀ self, Looks (model prog w) hp (bindSpecial (.ref fI) self) (.ref fI, [self]))
    (run : codeAny (model prog w) (A.under (.builtin "type.__call__" ⟨.ref C :: xs, kw⟩)) (.call (.ref fI) ⟨.ref (hp.objs.size + 1) :: xs, kw⟩) (InitBack (hp.objs.size + 1) R) ⟨laidE hp C xs, gn, dr, tk, os⟩) :
    codeAny (model prog w) A (.call (.ref C) ⟨xs, kw⟩) R ⟨hp, gn, dr, tk, os⟩ := by
  have z1 := tc_lookup
  have z2 := tc_bind (.ref C)
  have ty : (⟨hp, gn, dr, tk, os⟩ : Shared).TypeIs (.ref C) "type" := ⟨_, at_C, rfl⟩
  apply codeAny_of_tree
  show wpAny _ _ (callAny (.ref C) _) _ _ _
  repeat (any_goals (first
    | assumption
    | with_reducible refine wpAny_loadPart_at at_C ?_
    | wp_step))
  refine ⟨rfl, codeAny_call_builtin_at (Code.quiet_builtin _ (by decide +kernel)) entry_typeCall (checkTypeK at_C (typeCallK F eq at_C fit li lb (codeAny_mono run ?_)))⟩
  rintro (e | (_ | _ | _ | v)) s' z <;> exact z
end
end GxE

namespace Gx
open PySem PySem.Spec PyProof.Rows L2
/-- C(e) of an own exception class whose __init__ keeps its one argument in the field f -/
def rExV (C : Addr) (f : Str) : List V → Hp → VK → Prop := fun vs H Q => ∃ v, vs = [v] ∧ ∀ a d, H a = none → H d = none → d ≠ a → Q (.ref a) (upd (upd H d (exd d [(f, v)])) a (exo a C (some d)))
/-- what is known of such a class -/
structure ExK (P : Program) (w : World) (K : PySem.W.Frag) (mg : Str → Option Value) (base : Heap) (x : Str) (C : Addr) (f : Str) (fI : Addr) (fd : FuncData) : Prop where
  T : OexC K C
  i : PySem.W.findIn K (.ref C) "__init__" = some (some (.ref fI))
  t : PySem.W.typeIn K (.ref fI) = some (.type "function")
  F : FnOk P w K mg base CX0 1 fI fd ["self", f] (spExI C f)
  b : Binds K fd ["self", f] []
  kb : KBn K fd ["self", f] 1 [f] (fun us ws => us ++ ws) (fun vs zs => vs ++ zs)
  g : mg x = some (.ref C)
theorem kb_one {K : PySem.W.Frag} {x qual : Str} {params : Arguments} {body : List Stmt} {scope : Scope} {kws : List (Str × V)} {f : Addr} {fd : FuncData} {ps : List Str} {n : Str} (D : FunD K x qual params body scope [] kws f fd)
    (h : ∀ (kV doc pm : Value) (an : Option Addr) (cdv ct u v : Value), bindArgs (PySem.W.fnOf x qual params body scope .none kV doc pm an cdv ct) ⟨[u], [(n, v)]⟩ = pure (ps.zip [u, v])) : KBn K fd ps 1 [n] (fun us ws => us ++ ws) (fun vs zs => vs ++ zs) := by
  obtain ⟨oc, od, dV, kV, doc, pm, an, cdv, ct, osl, rfl, lk, hcd, hD, hK⟩ := D.ex
  rcases hD with ⟨_, rfl⟩ | ⟨e, _⟩
  · refine ⟨fun s us ws _ h1 h2 => ?_, fun a b => a.append b⟩
    match us, h1 with
    | [u], _ =>
      match ws, h2 with
      | [v], _ => exact .of_eq (h kV doc pm an cdv ct u v)
  · exact absurd rfl e
section
variable {X : Cx} {x : Str} {C fI : Addr} {fd : FuncData} {f : Str} {e : Expr} {te : TE} {p pos kp : Pos}
theorem run_exV {pins : List (Addr × Obj)} {σ : L2.St} {H : Hp} {s : Shared} {Q : VK} {us : List Value} {kw : List (Str × Value)} {v : V} {u : Value} (Z : ExK X.prog X.w X.K X.mg X.base x C f fI fd) (hr : Room 2 X.A) (I : Inv X pins σ H s) (fit : us.length ≤ sizeLine) (rv : RelV v u)
    (hb : ∀ (s : Shared) (a : Addr), X.K.In s.heap → BindsTo s fd ⟨.ref a :: us, kw⟩ ((["self", f] : List Str).zip [Value.ref a, u]))
    (h : ∀ a d, H a = none → H d = none → d ≠ a → Q (.ref a) (upd (upd H d (exd d [(f, v)])) a (exo a C (some d)))) :
    wpAny (model X.prog X.w) X.A (call (.ref C) us kw) (EP X pins σ Q) X.xe s := by
  obtain ⟨nm, q, N, bs, bm, sn, sub, ab, col, dd, k0, k1, k2, k3, k5, hC, hbm⟩ := Z.T.cls
  obtain ⟨hp, g, dr, tk, os⟩ := s
  have hsz : hp.objs.size ≤ hp.objs.size + 1 := Nat.le_succ _
  have nA : H (hp.objs.size + 1) = none := I.hok.fresh hsz
  have more : ∀ b o, hp.get? b = some o → (GxE.laidE hp C us).get? b = some o := fun b o e => Heap.get?_push_of_some _ (Heap.get?_push_of_some _ e)
  have at_e : (GxE.laidE hp C us).get? (hp.objs.size + 1) = some (PySem.HandSPX.excO C hp.objs.size) := by heap_get
  have I2 : Inv X pins σ (upd H (hp.objs.size + 1) (exo (hp.objs.size + 1) C none)) ⟨GxE.laidE hp C us, g, dr, tk, os⟩ :=
    I.laid (t' := tk) (a := hp.objs.size + 1) (o := exo (hp.objs.size + 1) C none) (h' := GxE.laidE hp C us) more hsz (exo_ok at_e)
  have sp : spExI C f [.ref (hp.objs.size + 1), v] (upd H (hp.objs.size + 1) (exo (hp.objs.size + 1) C none)) (fun r H2 => r = .non ∧ Q (.ref (hp.objs.size + 1)) H2) (fun _ _ _ => False) := by
    refine ⟨_, v, rfl, upd_same, fun d hd ne => ⟨rfl, ?_⟩⟩
    have hd2 : H d = none := by rwa [upd_ne ne] at hd
    have e : upd (upd (upd H (hp.objs.size + 1) (exo (hp.objs.size + 1) C none)) d (exd d [(f, v)])) (hp.objs.size + 1) (exo (hp.objs.size + 1) C (some d)) = upd (upd H d (exd d [(f, v)])) (hp.objs.size + 1) (exo (hp.objs.size + 1) C (some d)) := by
      funext b
      unfold upd
      repeat' split
      all_goals first | rfl | contradiction
    rw [e]
    exact h _ d nA hd2 ne
  refine wpAny_call (GxE.callK F.excBase_ValueError (fun Y => PySem.HandSPX.refsVE_contains Y bm hbm) (I.kIn _ _ hC) fit (PySem.W.looks_findIn I.kIn Z.i) (fun self => PySem.W.bind_fn I.kIn self Z.t)
    (codeAny_mono (Z.F.run _ X.stack _ _ _ [Value.ref (hp.objs.size + 1), u] [.ref (hp.objs.size + 1), v] _ _ (hr.make C us kw) (I2.env0.make C us kw) (hb _ _ I2.kIn) (.cons rfl (.cons rv .nil)) sp) ?_))
  rintro (er | (_ | _ | _ | z)) s' hq
  · exact False.elim hq
  · exact False.elim hq
  · exact False.elim hq
  · exact False.elim hq
  · obtain ⟨r, H', J, rr, er, q2⟩ := I2.after hq
    subst er
    exact ⟨rr, ⟨V.ref (hp.objs.size + 1), H', J, rfl, q2⟩⟩
variable {t tk : TA} {kws : List Keyword}
theorem pe_exV (Z' : ∃ fI fd, ExK X.prog X.w X.K X.mg X.base x C f fI fd) (hr : Room 2 X.A) (hg : Gl X x) (ha : PA X [e] t) (hdb : (x == ("__debug__" : Str)) = false := by decide) (he : starEach [e] X.env = (false, eval e X.env) :: starEach [] X.env := by rfl) (hpl : (backTo pos (starEach [] X.env)).any (·.1) = false := by rfl) :
    PE X (.Call (.Name x p) [e] [] pos) (tCB (rExV C f) t) := by
  obtain ⟨fI, fd, Z⟩ := Z'
  constructor
  intro pins s σ H Q I h
  refine wpAny_Call_Name_kw (ld_glob I hg Z.g ?_ hdb)
  refine PySem.W.callWith_K (h₀ := X.base) I.ok.mod.kin Z.T.kC (thn (ha.run pos pins s σ H _ I h) ?_) he hpl
  rintro us s1 ⟨vs, H1, I1, r, v, rfl, q⟩
  obtain ⟨u, rfl, ru⟩ := vals1 r
  exact ⟨I1.kIn, run_exV Z hr I1 (by rw [sizeLine_eq]; show 1 ≤ _; omega) ru (fun s a X => Z.b s [.ref a, u] X rfl) q⟩
theorem pe_exK (Z' : ∃ fI fd, ExK X.prog X.w X.K X.mg X.base x C f fI fd) (hr : Room 2 X.A) (hg : Gl X x) (hkw : PK X kws tk) (hall : (backToKw pos (keywordEach kws X.env)).all (·.1.isSome) = true := by rfl) (hks : (backToKw pos (keywordEach kws X.env)).filterMap (·.1) = [f] := by rfl)
    (hdb : (x == ("__debug__" : Str)) = false := by decide) (hpl : ((backTo pos (starEach [] X.env)).any (·.1) || (backToKw pos (keywordEach kws X.env)).any (·.1.isNone)) = false := by rfl) :
    PE X (.Call (.Name x p) [] kws pos) (tCB (rExV C f) tk) := by
  obtain ⟨fI, fd, Z⟩ := Z'
  constructor
  intro pins s σ H Q I h
  refine wpAny_Call_Name_kw (ld_glob I hg Z.g ?_ hdb)
  refine PySem.W.callWith_KW0 (h₀ := X.base) I.ok.mod.kin Z.T.kC hall (thn (hkw.run pos pins s σ H _ I h) ?_) hpl
  rintro us s1 ⟨vs, H1, I1, r, v, rfl, q⟩
  obtain ⟨u, rfl, ru⟩ := vals1 r
  rw [hks]
  exact ⟨I1.kIn, run_exV Z hr I1 (by show 0 ≤ _; omega) ru (fun s a X => Z.kb.to s [.ref a] [u] X rfl rfl) q⟩
end

/-! ### isinstance of such a value; its field -/

/-! ### isinstance of such a value; its field -/
/-- isinstance(x, c), x such an exception -/
def rIsX (K : PySem.W.Frag) : List V → Hp → VK → Prop := fun xs H Q => ∃ (a D d : Addr) (fs : List (Str × V)) (c : V) (cv : Value) (b : Bool), xs = [.ref a, c] ∧ H a = some (exo a D (some d)) ∧ H d = some (exd d fs) ∧ ExcC K D ∧ (∀ u, RelV c u → u = cv) ∧
  PySem.W.kitOne K (.ref D) cv = some b ∧ Q (.bl b) H
theorem exo_inst {P : Program} {w : World} {H : Hp} {h : Heap} {a D d : Addr} {fs : List (Str × V)} (hok : HOk P w H h) (ha : H a = some (exo a D (some d))) (hd : H d = some (exd d fs)) :
    ∃ (ox od : Obj) (mA : Str → Option Value), PySem.W.InstAt h a ox D (some od) ∧ (∀ n, PySem.W.lookIn n od = some (mA n)) ∧ ∀ f, RelO (fs.lookup f) (mA f) := by
  obtain ⟨t, e⟩ := exo_at hok ha
  obtain ⟨mA, ns, r⟩ := exd_at hok hd
  obtain ⟨od, ho, hl⟩ := lookIn_ns ns
  exact ⟨_, od, mA, ⟨e, rfl, rfl, ho⟩, hl, r⟩
theorem call_isX {X : Cx} : CallR X (.builtin "isinstance") (rIsX X.K) := by
  intro pins s σ H xs us Q I r h
  obtain ⟨a, D, d, fs, c, cv, b, rfl, ha, hd, C, hc, e, q⟩ := h
  obtain ⟨u, z, rfl, ru, rz⟩ := vals2 r
  cases (show u = Value.ref a from ru)
  cases hc _ rz
  obtain ⟨ox, od, mA, hI, _, _⟩ := exo_inst I.hok ha hd
  obtain ⟨cd, hcd, _⟩ := PySem.W.any_some C.hd
  exact PySem.W.kia_one (PySem.W.kitx_exc (by rw [hcd]; rfl) C.hg C.hk C.hs C.ha C.hn C.ht C.hm) I.kIn hI e (fun z => nomatch z) fun tk => ⟨.bl b, H, I.kept (t' := tk) fun _ _ z => z, rfl, q⟩
/-- x.f of such an exception -/
def tExF (K : PySem.W.Frag) (f : Str) (te : TE) : TE := fun σ H Q => te σ H fun x H1 => ∃ (a D d : Addr) (fs : List (Str × V)) (v : V), x = .ref a ∧ H1 a = some (exo a D (some d)) ∧ H1 d = some (exd d fs) ∧ XfC K D ∧ PySem.W.findIn K (.ref D) f = some none ∧ fs.lookup f = some v ∧ Q v H1
theorem pe_exF {X : Cx} {K : PySem.W.Frag} {f : Str} {e : Expr} {te : TE} {pos : Pos} (hK : X.K = K) (he : PE X e te) (hb : attributeBase e f X.env (eval e X.env) = eval e X.env := by rfl) : PE X (.Attribute e f pos) (tExF K f te) := by
  subst hK
  constructor
  intro pins s σ H Q I h
  refine attr_of hb (thn (he.run pins s σ H _ I h) ?_)
  rintro u s1 ⟨x, H1, I1, rx, a, D, d, fs, v, rfl, ha, hd, T, hno, l, q⟩
  cases (show u = Value.ref a from rx)
  obtain ⟨ox, od, mA, hI, hl, r⟩ := exo_inst I1.hok ha hd
  obtain ⟨z, hz, rz⟩ := RelO.some_of (v := v) (o := mA f) (by rw [← l]; exact r f)
  exact PySem.HandSPX.exc_get I1.kIn hI T.ga T.gg T.exC (PySem.W.findObj_own T.hdC hno rfl (by rw [hl, hz])) (handed_of rz) ⟨v, H1, I1.tok _, rz, q⟩
end Gx

namespace Gx
open PySem PySem.Spec PyProof.Rows L2

theorem add_lt_pow {a b : Int} {k : Nat} (ha : a.natAbs < 2 ^ k) (hb : b.natAbs < 2 ^ k) : (a + b).natAbs < 2 ^ (k + 1) := by
  have h := Int.natAbs_add_le a b
  rw [Nat.pow_succ]
  omega
theorem bits_add {a b : Int} {k : Nat} (ha : Builtin.Int.intBits a ≤ k) (hb : Builtin.Int.intBits b ≤ k) : Builtin.Int.intBits (a + b) ≤ k + 1 := bits_of_lt (add_lt_pow (lt_of_bits ha) (lt_of_bits hb))
theorem bits_mono {a : Int} {j k : Nat} (h : Builtin.Int.intBits a ≤ j) (l : j ≤ k) : Builtin.Int.intBits a ≤ k := Nat.le_trans h l
/-! ### a def by its name, ready to be called -/
structure Ca (P : Program) (w : World) (K : PySem.W.Frag) (mg : Str → Option Value) (base : Heap) (CX : CXT) (k : Nat) (x : Str) (sp : Sp) : Prop where
  ex : ∃ f fd ps, FnOk P w K mg base CX k f fd ps sp ∧ Binds K fd ps [] ∧ mg x = some (.ref f) ∧ PySem.W.keepIn K (.ref f) = true
structure CaG (P : Program) (w : World) (K : PySem.W.Frag) (mg : Str → Option Value) (base : Heap) (CX : CXT) (k : Nat) (x : Str) (sp : Sp) : Prop where
  ex : ∃ f fd ps, FnG P w K mg base CX k f fd ps sp ∧ Binds K fd ps [] ∧ mg x = some (.ref f) ∧ PySem.W.keepIn K (.ref f) = true
section
variable {X : Cx} {CX : CXT} {k : Nat} {sp : Sp} {E : XK} {x : Str} {p pos : Pos} {e : Expr} {es : List Expr} {t : TA}
theorem pe_ca (c : Ca X.prog X.w X.K X.mg X.base CX k x sp) (hr : Room k X.A) (hg : Gl X x) (hx : Passes CX X E) (ha : PA X (e :: es) t) (hdb : (x == ("__debug__" : Str)) = false := by decide) (he : starEach (e :: es) X.env = (false, eval e X.env) :: starEach es X.env := by rfl)
    (hpl : (backTo pos (starEach es X.env)).any (·.1) = false := by rfl) : PE X (.Call (.Name x p) (e :: es) [] pos) (tCall sp [] E t) := by
  obtain ⟨f, fd, ps, F, hb, hm, hk⟩ := c.ex
  exact pe_call F hr hg hm hk hb .nil hx ha hdb he hpl
theorem pe_cg (c : CaG X.prog X.w X.K X.mg X.base CX k x sp) (hgd : X.A.guards = some []) (hr : Room k X.A) (hg : Gl X x) (hx : Passes CX X E) (ha : PA X (e :: es) t) (hdb : (x == ("__debug__" : Str)) = false := by decide)
    (he : starEach (e :: es) X.env = (false, eval e X.env) :: starEach es X.env := by rfl) (hpl : (backTo pos (starEach es X.env)).any (·.1) = false := by rfl) : PE X (.Call (.Name x p) (e :: es) [] pos) (tCall sp [] E t) := by
  obtain ⟨f, fd, ps, F, hb, hm, hk⟩ := c.ex
  exact pe_callG F hgd hr hg hm hk hb .nil hx ha hdb he hpl
end

/-! ### an own exception class over ValueError, by one Bool -/
def oexB (K : PySem.W.Frag) (C : Addr) : Bool := match K.lookup C with
  | some ⟨.type "type", _, .cls cd, sl⟩ => (match cd.mro, sl.toList with
    | .ref D :: bm, [_, _, _, _, some (.builtin n), _] => decide (D = C) && (decide (n = "ValueError.__new__") && (!cd.hasDel && (cd.hasDict && PySem.HandSPX.refsVE bm)))
    | _, _ => false)
  | _ => false
theorem oexB_ok {K : PySem.W.Frag} {C : Addr} (h : oexB K C = true) :
    ∃ nm q N bs bm sn sub ab col dd k0 k1 k2 k3 k5, K.lookup C = some (excClassObj nm q C N bs bm true sn sub ab col dd k0 k1 k2 k3 k5 "ValueError.__new__") ∧ PySem.HandSPX.refsVE bm = true := by
  unfold oexB at h
  split at h
  · rename_i dd cd sl ho
    split at h
    · rename_i D bm k0 k1 k2 k3 n k5 hm hs
      simp only [Bool.and_eq_true, decide_eq_true_eq, Bool.not_eq_true'] at h
      obtain ⟨rfl, rfl, hdel, hdct, hb⟩ := h
      obtain ⟨nm, bs, mro, ns, qn, hd, sn, sub, ab, col, del⟩ := cd
      obtain ⟨l⟩ := sl
      dsimp only at hm hdel hdct hs
      subst hm hdel hdct hs
      exact ⟨nm, qn, ns, bs, bm, sn, sub, ab, col, dd, k0, k1, k2, k3, k5, ho, hb⟩
    · cases h
  · cases h
/-- all that is asked of such a class x with its one field f -/
def exB (K : PySem.W.Frag) (x f : Str) : Bool :=
  oexB K (He.ga K x) && (decide (PySem.W.findIn K (.ref (He.ga K x)) "__setattr__" = some (some (.builtin "object.__setattr__"))) && (decide (PySem.W.subIn K (.ref (He.ga K x)) (.type "BaseException") = some true) && (decide (PySem.W.typeIn K (.ref (He.ga K x)) = some (.type "type")) &&
  (PySem.W.keepIn K (.ref (He.ga K x)) && (decide (PySem.W.findIn K (.ref (He.ga K x)) "__init__" = some (some (.ref (He.ma K (He.ga K x) "__init__")))) && (decide (PySem.W.typeIn K (.ref (He.ma K (He.ga K x) "__init__")) = some (.type "function")) &&
  (decide (PySem.W.findIn K (.ref (He.ga K x)) "__getattribute__" = some (some (.builtin "BaseException.__getattribute__"))) && (decide (PySem.W.findIn K (.ref (He.ga K x)) "__getattr__" = some none) && (PySem.W.hasDictIn K (He.ga K x) &&
  (decide (PySem.W.findIn K (.ref (He.ga K x)) "__class__" = some (some (.builtin "object.__class__"))) && (decide (PySem.W.specialIn K (.builtin "object.__class__") "__get__" = some (some (.builtin "getset_descriptor.__get__"))) && (decide (PySem.W.takesIn K (.builtin "object.__class__") = some true) &&
  (decide (PySem.W.mroIn K (He.ga K x) (.type "object") = some true) && decide (PySem.W.findIn K (.ref (He.ga K x)) f = some none))))))))))))))
structure ExB (K : PySem.W.Frag) (x f : Str) : Prop where
  T : OexC K (He.ga K x)
  i : PySem.W.findIn K (.ref (He.ga K x)) "__init__" = some (some (.ref (He.ma K (He.ga K x) "__init__")))
  t : PySem.W.typeIn K (.ref (He.ma K (He.ga K x) "__init__")) = some (.type "function")
  C : ExcC K (He.ga K x)
  X : XfC K (He.ga K x)
  no : PySem.W.findIn K (.ref (He.ga K x)) f = some none
theorem exB_ok {K : PySem.W.Frag} {x f : Str} (h : exB K x f = true) : ExB K x f := by
  simp only [exB, Bool.and_eq_true, decide_eq_true_eq] at h
  obtain ⟨h1, h2, h3, h4, h5, h6, h7, h8, h9, h10, h11, h12, h13, h14, h15⟩ := h
  exact ⟨⟨oexB_ok h1, h2, h3, h4, h5⟩, h6, h7, ⟨h8, h9, h3, h10, h11, h12, h13, h14⟩, ⟨h8, h9, h3, h10⟩, h15⟩
end Gx
namespace Gx
open PySem PySem.Spec PyProof.Rows L2
theorem upd_old {H : Hp} {a p : Addr} {o u : HO} (h : H a = some o) (hp : H p = none) : upd H p u a = some o := by rw [upd_ne (ne_of_none h hp)]; exact h
theorem Same.new {H : Hp} {p : Addr} {o : HO} (hp : H p = none) : Same H (upd H p o) := fun _ _ h => upd_old h hp
/-- a new object: the heap is from then on a letter -/
theorem laid {H H1 : Hp} {p : Addr} {o : HO} (g : upd H p o = H1) (h : H p = none) : Same H H1 ∧ H1 p = some o ∧ ∀ b, b ≠ p → H1 b = H b := by
  subst g
  exact ⟨Same.new h, upd_same, fun _ hb => upd_ne hb⟩
/-- an exception, made -/
theorem laidE {H H1 : Hp} {a d C : Addr} {f : Str} {v : V} (g : upd (upd H d (exd d [(f, v)])) a (exo a C (some d)) = H1) (ha : H a = none) (hd : H d = none) (ne : d ≠ a) : Same H H1 ∧ ExV H1 a C f v := by
  subst g
  have ha2 : upd H d (exd d [(f, v)]) a = none := by rw [upd_ne (Ne.symm ne)]; exact ha
  exact ⟨(Same.new hd).trans (Same.new ha2), d, upd_same, upd_old upd_same ha2⟩
theorem Same.over {H H' : Hp} {p : Addr} {o : HO} (k : Same H H') (h : H p = none) : Same H (upd H' p o) := fun b o' e => by
  rw [upd_ne (ne_of_none e h)]
  exact k _ _ e
theorem SqL.same {K : PySem.W.Frag} {H H' : Hp} {a : Addr} {xs : List V} (h : SqL K H a xs) (k : Same H H') : SqL K H' a xs := k.seq h
theorem SqT.same {K : PySem.W.Frag} {H H' : Hp} {a : Addr} {xs : List V} (h : SqT K H a xs) (k : Same H H') : SqT K H' a xs := by
  rcases h with (h | ⟨o, h⟩) | h
  · exact .inl (.inl (k _ _ h))
  · exact .inl (.inr ⟨o, k _ _ h⟩)
  · exact .inr h
mutual
theorem Dq.same {K : PySem.W.Frag} {H H' : Hp} (k : Same H H') : ∀ {v : V} {d : PyData}, Dq K H v d → Dq K H' v d
  | _, _, .non => .non
  | _, _, .bl b => .bl b
  | _, _, .int i => .int i
  | _, _, .str x => .str x
  | _, _, .lst h1 h2 => .lst (SqL.same h1 k) (DqAll.same k h2)
  | _, _, .tup h1 h2 => .tup (SqT.same h1 k) (DqAll.same k h2)
  | _, _, .dic h1 h2 => .dic (k _ _ h1) (DqAll.same k h2)
theorem DqAll.same {K : PySem.W.Frag} {H H' : Hp} (k : Same H H') : ∀ {vs : List V} {ds : List PyData}, DqAll K H vs ds → DqAll K H' vs ds
  | _, _, .nil => .nil
  | _, _, .cons h1 h2 => .cons (Dq.same k h1) (DqAll.same k h2)
end
theorem none_old {H H' : Hp} {p : Addr} (s : Same H H') (h : H' p = none) : H p = none := Same.free s h
end Gx

/-! an own ==, and != by it; == of dicts of data, both answers; dict comprehensions over any walk; a written tuple of texts -/
namespace Gx
open PySem PySem.Spec PyProof.Rows L2
theorem ne_slot : Slot "object" "__ne__" "object.__ne__" :=
  Slot.of (T := "object") (name := "__ne__") (owner := "object") (n := "__ne__") (by rw [typeLookup_type, builtinLookup_eq_fast]; kernel_rfl) (by decide +kernel) (by decide +kernel) (by decide +kernel) (.inl (by decide +kernel)) (by rw [isSubtype_type]; kernel_rfl)
section
variable {P : Program} {w : World} {A : Around} {E : Value → Shared → Prop} {s : Shared} {K : PySem.W.Frag} {x C f : Addr} {ox : Obj} {od : Option Obj} {b tb : Value}
theorem ifBound_ne {M : Model} {Q : Option Value → Shared → Prop} (X : K.In s.heap) (I : PySem.W.InstAt s.heap x ox C od) (hs : PySem.W.findIn K (.ref C) "__ne__" = some (some (.builtin "object.__ne__")))
    (h : wpAny M A (call (.builtin "object.__ne__") [.ref x, b]) (fun v => Q (some v)) E s) : wpAny M A (callSpecialIfBound? (.ref x) "__ne__" [b]) Q E s := by
  have bd := ne_slot.bind (.ref x)
  have fin : wpAny M A (call (.builtin "object.__ne__") ([.ref x] ++ [b]) >>= fun v => pure (some v)) Q E s := wpAny_bind (wpAny_mono h (fun v _ z => wpAny_pure z) fun _ _ z => z)
  simp only [callSpecialIfBound?, bindSpecialIfBound?]
  refine wpAny_holding (wpAny_bind (wpAny_bind (wpAny_bind (I.type.here ((PySem.W.looks_findIn X hs).here ?_)))))
  refine wpAny_bind (wpAny_askSetting (wpAny_ite ?_))
  rw [bd]
  split
  · exact wpAny_bind (wpAny_pure (wpAny_pure (by exact fin)))
  · exact wpAny_tryCatch (wpAny_bind (wpAny_pure (wpAny_pure (by exact fin))))
theorem call_ne {Q : Value → Shared → Prop} (hu : A.units + 1 < cLine) (X : K.In s.heap) (I : PySem.W.InstAt s.heap x ox C od) (ho : PySem.W.subIn K (.ref C) (.type "object") = some true) (hs : PySem.W.findIn K (.ref C) "__eq__" = some (some (.ref f))) (hf : PySem.W.isFn K (.ref f) = true)
    (h : wpAny (model P w) A.in1 (call (.ref f) [.ref x, b]) (fun r s' => ∃ k, r = .bool k ∧ Q (.bool (!k)) s') E s) : wpAny (model P w) A (call (.builtin "object.__ne__") [.ref x, b]) Q E s := by
  have is : PySem.W.Looks (model P w) s.heap (isInstance (.ref x) (.type "object")) true := by
    unfold isInstance
    exact PySem.W.Looks.andThen I.type (PySem.W.looks_subIn X ho)
  refine wpAny_call (codeAny_call_builtin ne_slot.plain PySem.F.cmpEntry_ne (PySem.W.check_slot PySem.F.cmpKind_ne PySem.F.cmpSplit_ne is (PySem.F.cmpArgs_ne _ _) ?_))
  have hu2 : A.in1.units < cLine := hu
  unfold Builtin.«object.__ne__»
  refine wpAny_bind (wpAny_pure ?_)
  dsimp only
  refine wpAny_bind (wpAny_cRoomFor hu2 ?_)
  refine wpAny_bind (PySem.W.ifBound_K X I hs hf (wpAny_mono h (fun r s' hr => ?_) fun _ _ e => e))
  obtain ⟨k, rfl, hq⟩ := hr
  refine wpAny_bind (wpAny_truthy_bool ?_)
  exact wpAny_pure hq
theorem rich_ne {Q : Value → Shared → Prop} (hu : A.units + 1 < cLine) (X : K.In s.heap) (I : PySem.W.InstAt s.heap x ox C od) (hb : PySem.W.Looks (model P w) s.heap (typeOf b) tb) (hn : PySem.W.notFirst K C tb = true) (ho : PySem.W.subIn K (.ref C) (.type "object") = some true)
    (hd : PySem.W.findIn K (.ref C) "__ne__" = some (some (.builtin "object.__ne__"))) (hs : PySem.W.findIn K (.ref C) "__eq__" = some (some (.ref f))) (hf : PySem.W.isFn K (.ref f) = true)
    (h : wpAny (model P w) A.in1 (call (.ref f) [.ref x, b]) (fun r s' => ∃ k, r = .bool k ∧ Q (.bool (!k)) s') E s) : wpAny (model P w) A (richCompare .NotEq (.ref x) b) Q E s := by
  have one : wpAny (model P w) A (tryCompare (.ref x) "__ne__" b) (fun r s' => ∃ k, r = some (.bool k) ∧ Q (.bool k) s') E s := by
    unfold tryCompare
    refine wpAny_bind (ifBound_ne X I hd (call_ne hu X I ho hs hf (wpAny_mono h (fun r s' z => ?_) fun _ _ e => e)))
    obtain ⟨k, rfl, q⟩ := z
    exact ⟨k, rfl, wpAny_pure ⟨_, rfl, q⟩⟩
  have last : wpAny (model P w) A (tryCompare (.ref x) "__ne__" b >>= fun r => match r with | some v => pure v | none => pure .none) Q E s := by
    refine wpAny_bind (wpAny_mono one (fun r s' z => ?_) fun _ _ e => e)
    obtain ⟨k, rfl, q⟩ := z
    exact wpAny_pure q
  unfold richCompare
  simp only [oneThing_ref]
  refine wpAny_holding (wpAny_bind (wpAny_cRoomFor (by omega) ?_))
  refine wpAny_bind (I.type.here (wpAny_bind (hb.here ?_)))
  have go : wpAny (model P w) A (tryCompare (.ref x) (cmpInfo .NotEq).2.1 b) (fun r s' => ∃ k, r = some (.bool k) ∧ Q (.bool k) s') E s := one
  split
  · rename_i q
    have e : PySem.W.subIn K tb (.ref C) = some false := by
      rcases Bool.or_eq_true_iff.mp hn with e | e
      · rw [beq_iff_eq.mp e] at q
        simp at q
      · exact beq_iff_eq.mp e
    refine wpAny_bind ((PySem.W.looks_subIn X e).here ?_)
    simp only [Bool.false_eq_true, if_false]
    refine wpAny_bind (wpAny_mono go (fun r s' z => ?_) fun _ _ e => e)
    obtain ⟨k, rfl, q⟩ := z
    exact wpAny_pure q
  · refine wpAny_bind (wpAny_pure ?_)
    simp only [Bool.false_eq_true, if_false]
    refine wpAny_bind (wpAny_mono go (fun r s' z => ?_) fun _ _ e => e)
    obtain ⟨k, rfl, q⟩ := z
    exact wpAny_pure q
end
/-- x == y, x != y where x is an instance of the class at C with an == of its own, y of a type that doesn't go first: the promise of __eq__ at both, its answer a bool -/
def rOwn (K : PySem.W.Frag) (C : Addr) (sp : Sp) (E : XK) (neg : Bool) : R2 := fun x y H Q => ∃ a dx fs T, x = .ref a ∧ H a = some (.ins C dx fs) ∧ TyX K H y T ∧ PySem.W.notFirst K C T = true ∧ sp [x, y] H (fun v H' => ∃ k, v = .bl k ∧ Q (.bl (neg != k)) H') E
section
variable {X : Cx} {CX : CXT} {n : Nat} {C f : Addr} {fd : FuncData} {ps : List Str} {sp : Sp} {E : XK}
theorem op_eqO (F : FnOk X.prog X.w X.K X.mg X.base CX n f fd ps sp) (hs : PySem.W.findIn X.K (.ref C) "__eq__" = some (some (.ref f))) (hf : PySem.W.isFn X.K (.ref f) = true) (hb : Binds X.K fd ps []) (hx : Passes CX X E) (hr : Room n X.A) : OpR X (compareOp .Eq) (rOwn X.K C sp E false) := by
  intro pins s σ H x y v u Q I rx ry h
  obtain ⟨a, dx, fs, T, rfl, ea, ty, nf, q⟩ := h
  cases rx
  obtain ⟨mA, J, _⟩ := ins_get I.hok ea
  obtain ⟨od, J, _⟩ := J.look
  obtain ⟨Pz, Z, pz, _⟩ := kit_of I ry ty
  obtain ⟨m, hF⟩ := I.fr
  have lk : PySem.W.Looks (model X.prog X.w) s.heap (typeOf u) T := Z.ty _ _ I.kIn pz
  show wpAny _ _ (richCompare .Eq (.ref a) u) _ _ _
  refine PySem.W.cmp_K (op := .Eq) (tb := T) hr.units0 hF I.ok.mod.kin J lk nf hs hf ?_
  refine wpAny_mono (run_fn (us := [.ref a, u]) (vs := [.ref a, y]) F hr hb .nil hx I (.cons rfl (.cons ry .nil)) q) (fun r s' z => ?_) fun _ _ e => e
  obtain ⟨w, H', I', rw_, k, rfl, q⟩ := z
  cases rw_
  have e : (false != k) = k := by cases k <;> rfl
  rw [e] at q
  exact ⟨.bl k, H', I', rfl, q⟩
theorem op_neO (F : FnOk X.prog X.w X.K X.mg X.base CX n f fd ps sp) (hs : PySem.W.findIn X.K (.ref C) "__eq__" = some (some (.ref f))) (hf : PySem.W.isFn X.K (.ref f) = true) (ho : PySem.W.subIn X.K (.ref C) (.type "object") = some true)
    (hd : PySem.W.findIn X.K (.ref C) "__ne__" = some (some (.builtin "object.__ne__"))) (hb : Binds X.K fd ps []) (hx : Passes CX X E) (hr : Room (n + 1) X.A) (hu : X.A.units + 1 < cLine) : OpR X (compareOp .NotEq) (rOwn X.K C sp E true) := by
  intro pins s σ H x y v u Q I rx ry h
  obtain ⟨a, dx, fs, T, rfl, ea, ty, nf, q⟩ := h
  cases rx
  obtain ⟨mA, J, _⟩ := ins_get I.hok ea
  obtain ⟨od, J, _⟩ := J.look
  obtain ⟨Pz, Z, pz, _⟩ := kit_of I ry ty
  have lk : PySem.W.Looks (model X.prog X.w) s.heap (typeOf u) T := Z.ty _ _ I.kIn pz
  show wpAny _ _ (richCompare .NotEq (.ref a) u) _ _ _
  refine rich_ne hu I.kIn J lk nf ho hd hs hf ?_
  have hl := F.len _ _ _ _ q
  refine wpAny_call (codeAny_mono (F.run X.A.in1 X.stack s H ⟨[.ref a, u], []⟩ [.ref a, u] [.ref a, y] _ E hr.in1 I.env0.in1 (by
    have := hb s [.ref a, u] I.kIn (by simpa using hl)
    simpa using this) (.cons rfl (.cons ry .nil)) q) fun r s' z => ?_)
  rcases r with e | (_ | _ | _ | u2)
  · exact hx pins σ H s e s' I z
  · exact False.elim z
  · exact False.elim z
  · exact False.elim z
  · obtain ⟨v2, H', I', rv, k, rfl, q⟩ := I.after z
    cases rv
    refine ⟨k, rfl, .bl (!k), H', I', rfl, ?_⟩
    have e : (true != k) = !k := by cases k <;> rfl
    rw [e] at q
    exact q
end
end Gx

/-! == of dicts of data, both answers; dict comprehensions over any walk; a written tuple of texts -/
namespace Gx
open PySem PySem.Spec PyProof.Rows L2
theorem valV_at {κ : Type} [DecidableEq κ] : ∀ {ls : List (κ × V)} {i : Nat} {k : κ} {u : V}, (ls.map (·.1)).Nodup → ls[i]? = some (k, u) → valV ls k = some u
  | [], i, k, u, _, h => by simp at h
  | p :: r, 0, k, u, _, h => by
    simp at h
    subst h
    exact valV_pos rfl
  | p :: r, i + 1, k, u, nd, h => by
    simp only [List.getElem?_cons_succ] at h
    simp only [List.map_cons, List.nodup_cons] at nd
    have hk : k ∈ r.map (·.1) := List.mem_map.mpr ⟨(k, u), List.mem_of_getElem? h, rfl⟩
    rw [valV_neg (fun e => nd.1 (e ▸ hk))]
    exact valV_at nd.2 h
section
variable {X : Cx} {pins : List (Addr × Obj)} {σ : L2.St} {H : Hp} {s : Shared}
theorem hits_dd (I : Inv X pins σ H s) {A : Around} (hu : A.units + 64 < cLine) {ls : List (Key × V)} {vb : List (Key × Value)} (rb : KV ls vb) : ∀ {ks : List (Key × V)} {va : List (Key × Value)} {xs : List V} {ds es : List PyData}, KV ks va → DpAll X.K H (ks.map (·.2)) ds → DpAll X.K H xs es →
    Paired (fun (p : Key × V) u => valV ls p.1 = some u) ks xs → (∀ d ∈ ds, SeqAt.shaped d = true) → (∀ d ∈ es, SeqAt.shaped d = true) → PySem.W.KeqHitsP X.prog X.w A s vb va (PyData.eqvAll ds es)
  | [], va, xs, ds, es, ra, hd, he, hp, sd, se => by
    cases ra
    cases hp
    cases hd
    cases he
    exact .nil
  | p :: ks, va, xs, ds, es, ra, hd, he, hp, sd, se => by
    cases ra with
    | @cons _ q _ qs r1 r2 =>
    cases hp with
    | @cons _ u _ us p1 p2 =>
    cases hd with
    | @cons _ _ d ds d1 d2 =>
    cases he with
    | @cons _ _ e es e1 e2 =>
    have rr : RelO (some u) (valueAt vb p.1) := by rw [← p1]; exact rb.val p.1
    obtain ⟨y, hy, ry⟩ := rr.some_of
    obtain ⟨key, v⟩ := q
    obtain ⟨h1, h2⟩ := r1
    rw [show p.1 = key from h1] at hy
    obtain ⟨as, a1⟩ := Dp.reads I d _ _ d1 h2
    obtain ⟨bs, b1⟩ := Dp.reads I e _ _ e1 ry
    have z1 := sd d List.mem_cons_self
    have z2 := se e List.mem_cons_self
    have eq : SeqAt.EqP X.prog X.w A s v y (PyData.eqv d e) := (SeqAt.eqAt_reads d e A s v y as bs a1 b1 (SeqAt.canLay_of_shaped z1) (SeqAt.canLay_of_shaped z2) (SeqAt.room_of_shaped z1 hu)).eqP
    rw [show PyData.eqvAll (d :: ds) (e :: es) = (PyData.eqv d e && PyData.eqvAll ds es) from by simp only [PyData.eqvAll]]
    exact .hit hy eq (hits_dd I hu rb r2 d2 e2 p2 (fun x hx => sd x (List.mem_cons_of_mem _ hx)) (fun x hx => se x (List.mem_cons_of_mem _ hx)))
end
/-- a == b, two dicts whose keys are the same in the same sequence, their values data -/
def rEqDD (K : PySem.W.Frag) : R2 := fun x y H Q => ∃ (a b : Addr) (ks ls : List (Key × V)) (ds es : List PyData), x = .ref a ∧ y = .ref b ∧ H a = some (.dK ks) ∧ H b = some (.dK ls) ∧ ks.map (·.1) = ls.map (·.1) ∧ (ls.map (·.1)).Nodup ∧ DpAll K H (ks.map (·.2)) ds ∧ DpAll K H (ls.map (·.2)) es ∧
  (∀ d ∈ ds, SeqAt.shaped d = true) ∧ (∀ d ∈ es, SeqAt.shaped d = true) ∧ Q (.bl (PyData.eqvAll ds es)) H
theorem vals_at {ls : List (Key × V)} : ∀ {ks rs : List (Key × V)}, ks.map (·.1) = rs.map (·.1) → (∀ r ∈ rs, valV ls r.1 = some r.2) → Paired (fun (p : Key × V) u => valV ls p.1 = some u) ks (rs.map (·.2))
  | [], [], _, _ => .nil
  | [], _ :: _, h, _ => by simp at h
  | _ :: _, [], h, _ => by simp at h
  | k :: ks, r :: rs, h, w => by
    simp only [List.map_cons, List.cons.injEq] at h
    exact .cons (by rw [h.1]; exact w r List.mem_cons_self) (vals_at h.2 fun x hx => w x (List.mem_cons_of_mem _ hx))
section
variable {X : Cx}
theorem op_eqDD (hu : X.A.units + 65 < cLine) : OpR X (compareOp .Eq) (rEqDD X.K) := by
  intro pins s σ H x y v u Q I rx ry h
  obtain ⟨a, b, ks, ls, ds, es, rfl, rfl, ea, eb, hk, nd, d1, d2, s1, s2, q⟩ := h
  cases rx
  cases ry
  obtain ⟨_, ya, va, ra, da⟩ := (show ObjOk X.prog X.w H s.heap a (.dK ks) from I.hok a _ ea)
  obtain ⟨_, yb, vb, rb, db⟩ := (show ObjOk X.prog X.w H s.heap b (.dK ls) from I.hok b _ eb)
  have hl : ks.length = ls.length := by simpa using congrArg List.length hk
  have hp : Paired (fun (p : Key × V) u => valV ls p.1 = some u) ks (ls.map (·.2)) := vals_at hk fun r hr => by
    obtain ⟨i, hi, e⟩ := List.mem_iff_getElem.mp hr
    exact valV_at (i := i) nd (by rw [List.getElem?_eq_getElem hi, e])
  refine PySem.W.rcP_dicts (knd := mixKind X.prog X.w) (r := PyData.eqvAll ds es) ya yb da db (by omega) (fun _ => hits_dd I (A := X.A.in1) (by show X.A.units + 1 + 64 < cLine; omega) rb ra d1 d2 hp s1 s2) _ _ ?_
  have e : va.length = vb.length := by rw [← ra.length, ← rb.length]; exact hl
  rw [show (va.length == vb.length && PyData.eqvAll ds es) = PyData.eqvAll ds es from by rw [e]; simp]
  exact ⟨.bl _, H, I, rfl, q⟩
end
/-- a dict comprehension over any walk -/
theorem dc_it {J : It} {n : Nat} {G : Hp → Prop} {Y : Nat → Hp → V → Hp → Prop} (w : Walk J n G Y) {g : TG} {tt : TT} {tk tv : TE} {vs : List Nat} {σ : L2.St} {H1 : Hp} {D : Addr} {Qd : Hp → Prop} (Pv : Nat → Hp → Prop) (h0 : Pv 0 (upd H1 D (.dK []))) (hG : ∀ i H, i ≤ n → Pv i H → G H)
    (hs : ∀ i x H H', i < n → Pv i H → Y i H x H' → g x (wipe σ vs) H' fun σ2 H2 => wipe σ2 vs = wipe σ vs ∧ tt σ2 H2 fun b H3 =>
      if b = true then tk σ2 H3 fun y H4 => tv σ2 H4 fun z H5 => ∃ kvs k, y = kV k ∧ H5 D = some (.dK kvs) ∧ kvs.length < sizeLine ∧ Pv (i + 1) (upd H5 D (.dK (putK kvs k z))) else Pv (i + 1) H3) (hd : ∀ H, Pv n H → Qd H) :
    ∃ W : Nat → Nat → Hp → Prop, (∃ m, W 0 m (upd H1 D (.dK []))) ∧ ∀ i m H, W i m H →
      (J.stop i H ∧ Qd H) ∨ (J.go i H ∧ ∃ Nx : Hp → Prop, (∀ H', Nx H' → ∃ m', m' < m ∧ W (i + 1) m' H') ∧ ∀ x H', J.yld i H x H' → g x (wipe σ vs) H' fun σ2 H2 => wipe σ2 vs = wipe σ vs ∧ tt σ2 H2 fun b H3 =>
        if b = true then tk σ2 H3 fun y H4 => tv σ2 H4 fun z H5 => ∃ kvs k, y = kV k ∧ H5 D = some (.dK kvs) ∧ kvs.length < sizeLine ∧ Nx (upd H5 D (.dK (putK kvs k z))) else Nx H3) := by
  refine ⟨fun i m H => m = n - i ∧ i ≤ n ∧ Pv i H, ⟨n, by omega, Nat.zero_le _, h0⟩, fun i m H ⟨em, hi, p⟩ => ?_⟩
  subst em
  rcases Nat.lt_or_ge i n with lt | ge
  · exact .inr ⟨w.goes i H lt (hG i H hi p), Pv (i + 1), fun H' p' => ⟨n - (i + 1), by omega, rfl, lt, p'⟩, fun x H' y => hs i x H H' lt p (w.yields i H x H' lt (hG i H hi p) y)⟩
  · obtain rfl : i = n := by omega
    exact .inl ⟨w.stops H (hG i H hi p), hd H p⟩
/-- the object at a is a written tuple of these texts -/
def tupB (K : PySem.W.Frag) (a : Addr) (ss : List Str) : Bool := match K.lookup a with
  | some ⟨.type "tuple", _, .seq its _, _⟩ => (decide (its.size ≤ sizeLine)) && (its.toList.map fun v => match v with | .str x _ => some x | _ => none) == ss.map some
  | _ => false
theorem tupB_ok {K : PySem.W.Frag} {a : Addr} {ss : List Str} (h : tupB K a ss = true) (H : Hp) : SqT K H a (ss.map V.str) := by
  unfold tupB at h
  split at h
  · rename_i dd its n sl e
    obtain ⟨h1, h2⟩ := Bool.and_eq_true_iff.mp h
    refine .inr ⟨_, its, n, e, rfl, rfl, of_decide_eq_true h1, ?_⟩
    replace h2 := beq_iff_eq.mp h2
    clear h h1 e
    generalize its.toList = l at h2
    induction l generalizing ss with
    | nil =>
      cases ss with
      | nil => exact .nil
      | cons _ _ => simp at h2
    | cons v l ih =>
      cases ss with
      | nil => simp at h2
      | cons x ss =>
        simp only [List.map_cons, List.cons.injEq] at h2
        refine .cons ?_ (ih h2.2)
        obtain ⟨h3, _⟩ := h2
        split at h3
        · rename_i y t
          cases h3
          exact ⟨t, rfl⟩
        · cases h3
  · cases h
end Gx

/-! a value's place in a tuple of texts, any data as the value -/
namespace Gx
open PySem PySem.Spec PyProof.Rows PySem.SeqAt L2
theorem str_eq_dict (b : Str) (u : Tok) (l : Addr) (od : Option Addr) (es : Array DictEntry) (ep : Nat) (sl : Array (Option Value)) :
    Meets (Builtin.«str.__eq__» ⟨[.str b u, .ref l], []⟩) (fun _ R s => s.heap.get? l = some ⟨.type "dict", od, .dict es ep, sl⟩ ∧ R (.ok (.ret .notImplemented)) s) :=
  .of_wp fun prog w A R s h => by
    obtain ⟨hp, g, d, tk, os⟩ := s
    obtain ⟨hl, h⟩ := h
    have f1 := PySem.F.sub_dict_str
    wp_walk using wpAny_loadPart' hl, wpAny_load hl
    exact ⟨_, rfl, h⟩
/-- a dict stands there -/
def DictAt (h : Heap) (l : Addr) : Prop := ∃ od es ep sl, h.get? l = some ⟨.type "dict", od, .dict es ep, sl⟩
theorem dictAt_of {K : Type} [DecidableEq K] {P : Program} {w : World} {knd : KeyKind P w K} {h : Heap} {l : Addr} {kvs : List (K × Value)} (d : h.DictOf knd l kvs) : DictAt h l := by
  obtain ⟨⟨c, od, dt, sl⟩, es, ep, ho, hx, hd, _⟩ := d
  obtain ⟨h1, _⟩ := hx
  simp only at h1 hd
  subst h1 hd
  exact ⟨od, es, ep, sl, ho⟩
section
variable {A : Around} {s : Shared}
theorem eqAt_str_dict {l : Addr} (b : Str) (u : Tok) (dd : DictAt s.heap l) (hu : A.units < cLine) : EqAt A s (.str b u) (.ref l) false := fun prog w E Q h => by
  obtain ⟨od, es, ep, sl, ho⟩ := dd
  have ty : s.TypeIs (.ref l) "dict" := ⟨_, ho, rfl⟩
  have back : ∀ Q' : Value → Shared → Prop, Q' .notImplemented s → wpAny (model prog w) A (call (.builtin "dict.__eq__") [.ref l, .str b u]) Q' E s := by
    intro Q' hq
    refine wpAny_call_entry PySem.F.slot_dict_eq_refl ty PySem.F.entry_dict_eq ?_ (PySem.F.args_dict_eq_2 _ _)
    show wpAny _ _ (Builtin.Dict.dictSlotArgs "__eq__" ⟨[.ref l, .str b u], []⟩ >>= _) _ _ s
    refine wpAny_bind ?_
    unfold Builtin.Dict.dictSlotArgs
    refine wpAny_bind (wpAny_notOrdered_dict ty ?_)
    show wpAny _ _ (pure (Value.ref l, Value.str b u)) _ _ s
    refine wpAny_pure ?_
    refine wpAny_bind (wpAny_isInstance (T := "str") (typeIs_str s b u) PySem.F.sub_str_dict ?_)
    simp only [Bool.not_false, if_true]
    exact wpAny_bind (wpAny_rule (wpAny_pure ⟨_, rfl, hq⟩))
  unfold eqBool
  refine wpAny_holding ?_
  refine wpAny_ite_split (fun hab => absurd (eq_of_beq hab) nofun) (fun _ => ?_)
  exact wpAny_bind (rc_eq_decline_or (k := false) (typeIs_str s b u) ty (by decide) PySem.F.sub_dict_str PySem.F.slot_str_eq PySem.F.slot_dict_eq_refl
    (fun _ hq => call_meets PySem.F.slot_str_eq (typeIs_str s b u) PySem.F.entry_str_eq (PySem.F.args_str_eq_2 _ _) (str_eq_dict b u l od es ep sl) ⟨ho, hq⟩)
    back (fun _ hq => wpAny_of_eq (rfl : isSame (.str b u) (.ref l) = pure false) hq) (.inr hu) (wpAny_truthy_bool h))
end
end Gx
namespace Gx
open PySem PySem.Spec PyProof.Rows L2
/-- data that is no text -/
inductive NoStr (K : PySem.W.Frag) (H : Hp) : V → Prop
  | flat {x : V} : flatV x = true → (∀ z, x ≠ .str z) → NoStr K H x
  | lst {a : Addr} {xs : List V} : SqL K H a xs → NoStr K H (.ref a)
  | tup {a : Addr} {xs : List V} : SqT K H a xs → NoStr K H (.ref a)
  | dic {a : Addr} {kvs : List (Key × V)} : H a = some (.dK kvs) → NoStr K H (.ref a)
section
variable {X : Cx} {pins : List (Addr × Obj)} {σ : L2.St} {H : Hp} {s : Shared}
theorem eqV_no {z : Str} {x : V} (h : ∀ y, x ≠ .str y) : eqV (.str z) x = false := by
  cases x <;> first | rfl | exact absurd rfl (h _)
theorem NoStr.eq (I : Inv X pins σ H s) {A : Around} (hu : A.units < cLine) {x : V} {v : Value} (h : NoStr X.K H x) (rx : RelV x v) (z : Str) (t : Tok) : SeqAt.EqAt A s (.str z t) v false := by
  cases h with
  | flat f n =>
    have e := eqAt_V (A := A) (s := s) (show RelV (.str z) (.str z t) from ⟨t, rfl⟩) rx rfl f
    rwa [eqV_no n] at e
  | lst q =>
    cases rx
    obtain ⟨_, _, pl, _⟩ := I.list q
    exact SeqAt.EqAt.str_list z t pl.isList hu
  | tup q =>
    cases rx
    obtain ⟨_, _, pl, _⟩ := I.tuple q
    exact SeqAt.EqAt.str_tuple z t pl hu
  | @dic a kvs e =>
    cases rx
    obtain ⟨_, _, _, _, dd⟩ := (show ObjOk X.prog X.w H s.heap a (.dK kvs) from I.hok a _ e)
    exact eqAt_str_dict z t (dictAt_of dd) hu
theorem no_items (I : Inv X pins σ H s) {A : Around} (hu : A.units < cLine) {x : V} {v : Value} (h : NoStr X.K H x) (rx : RelV x v) : ∀ {ss : List Str} {us : List Value}, Vals (ss.map V.str) us → ∀ u ∈ us, SeqAt.EqAt A s u v false
  | [], _, .nil => fun u hu => by cases hu
  | z :: ss, _, .cons r t => fun u hm => by
    rcases List.mem_cons.mp hm with rfl | hm
    · obtain ⟨k, rfl⟩ := r
      exact h.eq I hu rx z k
    · exact no_items I hu h rx t u hm
/-- x not in t, t a tuple of texts, x any data -/
def rNotInT (K : PySem.W.Frag) : R2 := fun x y H Q => ∃ (p : Addr) (ss : List Str), y = .ref p ∧ SqT K H p (ss.map V.str) ∧ ((∃ z, x = .str z ∧ Q (.bl (!decide (z ∈ ss))) H) ∨ (NoStr K H x ∧ Q (.bl true) H))
theorem in_texts {z : Str} : ∀ ss : List Str, inV (.str z) (ss.map V.str) = decide (z ∈ ss)
  | [] => rfl
  | y :: ss => by
    have ih := in_texts (z := z) ss
    unfold inV at ih ⊢
    rw [List.map_cons, List.any_cons, ih]
    show ((y == z) || _) = _
    by_cases e : y = z
    · subst e
      simp
    · have h1 : (y == z) = false := beq_eq_false_iff_ne.mpr e
      have h2 : z ≠ y := fun q => e q.symm
      rw [h1]
      simp [h2]
theorem flat_texts (ss : List Str) : (ss.map V.str).all flatV = true := by
  induction ss with
  | nil => rfl
  | cons y ss ih => rw [List.map_cons, List.all_cons, ih]; rfl
theorem op_notInT (hu : X.A.units + 1 < cLine) : OpR X (compareOp .NotIn) (rNotInT X.K) := by
  intro pins s σ H x y v u Q I rx ry h
  obtain ⟨p, ss, rfl, hp, h⟩ := h
  rcases h with ⟨z, rfl, q⟩ | ⟨n, q⟩
  · refine op_notIn_seq pins s σ H _ _ v u Q I rx ry ⟨p, _, rfl, .inr hp, rfl, flat_texts ss, ?_⟩
    rw [in_texts]
    exact q
  · cases ry
    obtain ⟨us, r, pl, _⟩ := I.tuple hp
    refine SeqAt.notIn_tupleAt (fun _ => false) pl (fun w hw => no_items I (A := X.A.in1) hu n rx r w (by simpa using hw)) ⟨.bl _, H, I, rfl, ?_⟩
    rw [show (us.toArray.any fun _ => false) = false by simp]
    exact q
end
end Gx

/-! tuple(d), d a dict -/
namespace Gx
open PySem PySem.Spec PyProof.Rows L2
section
variable {P : Program} {w : World} {A : Around} {E : Value → Shared → Prop} {s : Shared} {T : String} {r d : Addr} {n : Nat} {Pv : Nat → Value → Prop} {OK : Heap → Prop}
theorem collect_src {Q : List Value → Shared → Prop} (S : PySem.W.KdlSrc P w T r d n Pv OK) (hh : A.handled = none) (ok : OK s.heap) (hn : n ≤ sizeLine)
    (hQ : ∀ (g : Heap) (tk : Nat) (acc : Array Value), (∀ b o, s.heap.get? b = some o → g.get? b = some o) → ItemsOf Pv acc n → Q acc.toList { s with heap := g, toks := tk }) : wpAny (model P w) A (collect (.ref r)) Q E s := by
  let L : Obj := { cls := .type "list", data := .seq ([] : List Value).toArray }
  have at_ : (s.heap.push L).get? s.heap.objs.size = some { cls := .type "list", data := .seq #[] 0 } := Heap.get?_push_size _ rfl
  have old : ∀ b o, s.heap.get? b = some o → (s.heap.push L).get? b = some o := fun b o e => Heap.get?_push_of_some _ e
  have lt := S.there _ ok
  unfold collect
  refine wpAny_bind (wpAny_runValue (codeAny_builtin F.entry_proto_collect ?_))
  rw [Around.under_plainId F.plain_proto_collect _]
  show wpAny _ A.in1 (newList [] >>= fun l => again (.builtin "list.__iadd__" ⟨[l, .ref r], []⟩)) _ _ s
  refine wpAny_bind (wpAny_newObj_type (wpAny_pure ⟨plainId_quiet F.plain_list_iadd _, codeAny_builtin F.entry_list_iadd ?_⟩))
  rw [Around.under_plainId F.plain_list_iadd _]
  show wpAny _ A.in1 (Builtin.List.listExtendWith (.ref s.heap.objs.size) (.ref r) (.ref s.heap.objs.size)) _ _ _
  have run := PySem.W.kdl_extend (A := A) (s := { s with heap := s.heap.push L }) (R := fun x t => x = .ok (.ret (.ref s.heap.objs.size)) ∧ ∃ (g : Heap) (tk : Nat) (acc : Array Value) (c : Nat), t = { s with heap := g, toks := tk } ∧ (∀ b o, s.heap.get? b = some o → g.get? b = some o) ∧
      g.get? s.heap.objs.size = some { cls := .type "list", dict := none, data := .seq acc c, slots := #[] } ∧ ItemsOf Pv acc n) S hh (S.keep _ _ ok fun b _ o e => old b o e) s.heap.objs.size (Nat.ne_of_gt lt.1) (Nat.ne_of_gt lt.2) (.ref s.heap.objs.size) 0 at_
    (fun g tk acc c k e i => ⟨rfl, g, tk, acc, c, rfl, fun b o q => k b o (Nat.ne_of_lt (Heap.lt_size q)) (old b o q), e, i⟩) hn
  have fin : ∀ t, (∃ (g : Heap) (tk : Nat) (acc : Array Value) (c : Nat), t = { s with heap := g, toks := tk } ∧ (∀ b o, s.heap.get? b = some o → g.get? b = some o) ∧ g.get? s.heap.objs.size = some { cls := .type "list", dict := none, data := .seq acc c, slots := #[] } ∧ ItemsOf Pv acc n) →
      wpAny (model P w) A (load s.heap.objs.size >>= fun o => match o.data with | .seq v _ => pure v.toList | _ => pure []) Q E t := by
    rintro t ⟨g, tk, acc, c, rfl, k, e, i⟩
    exact wpAny_bind (wpAny_load e (wpAny_pure (hQ g tk acc k i)))
  refine wpAny_mono run (fun x t z => ?_) (fun e t z => ?_)
  · cases x with
    | done f =>
      obtain ⟨e, g, tk, acc, c, rfl, k, q, i⟩ := z
      cases e
      show wpAny _ A (load s.heap.objs.size >>= _) _ _ _
      exact wpAny_bind (wpAny_load q (wpAny_pure (hQ g tk acc k i)))
    | again c =>
      refine ⟨z.1, codeAny_mono z.2 fun x t z => ?_⟩
      obtain ⟨rfl, g, tk, acc, c, rfl, k, q, i⟩ := z
      show wpAny _ A (load s.heap.objs.size >>= _) _ _ _
      exact wpAny_bind (wpAny_load q (wpAny_pure (hQ g tk acc k i)))
  · exact absurd z.1 (by simp)
theorem tuple_src {Q : Value → Shared → Prop} (S : PySem.W.KdlSrc P w T r d n Pv OK) (hh : A.handled = none) (ok : OK s.heap) (hn : n ≤ sizeLine) (nt : (Value.type T == Value.type "tuple") = false)
    (hQ : ∀ (g : Heap) (tk : Nat) (acc : Array Value), (∀ b o, s.heap.get? b = some o → g.get? b = some o) → ItemsOf Pv acc n → Q (.ref g.objs.size) { s with heap := g.push { cls := .type "tuple", data := .seq acc }, toks := tk }) :
    wpAny (model P w) A (call (.type "tuple") [.ref r]) Q E s := by
  refine callType_codes (Q₁ := fun obj t => t.TypeIs obj "tuple" ∧ Q obj t) F.called_tuple (F.typeCall_tuple_1 _) F.entry_object_init ?_ fun obj t z => ⟨z.1, F.args_object_init_2 obj _, object_init_meets F.called_tuple.init.lookup F.called_tuple.made (by decide) P w A.in1 _ t ⟨z.1, rfl, z.2⟩⟩
  refine codeAny_of_tree ?_
  show wpAny _ _ (do checkBuiltinCall "tuple.__new__" ⟨[.type "tuple", .ref r], []⟩; again (.builtin "tuple.__new__" ⟨[.type "tuple", .ref r], []⟩)) _ _ s
  refine wpAny_bind (wpAny_of_eq (F.newCall_tuple_1 _) (wpAny_pure ⟨plainId_quiet F.plain_tuple_new _, codeAny_builtin F.entry_tuple_new ?_⟩))
  rw [Around.under_plainId F.plain_tuple_new _]
  have f1 := sub_tuple_self
  have f2 := init_tuple_lookup
  have f3 := madeHere_tuple
  have ty : s.TypeIs (.ref r) T := S.type s ok
  have hh1 : A.in1.in1.handled = none := hh
  wp_walk using wpAny_typeOf ty, collect_src S hh1 ok hn
  intro g tk acc k i
  show wpAny _ _ (Builtin.Tuple.tupleExact acc.toList.toArray >>= fun v => ret v) _ _ _
  have e : acc.toList.toArray = acc := by simp
  rw [e]
  unfold Builtin.Tuple.tupleExact
  refine wpAny_bind (wpAny_newObj_type ?_ (by show acc.size ≤ sizeLine; rw [i.1]; exact hn))
  exact wpAny_pure ⟨⟨_, Heap.get?_push_size _ rfl, rfl⟩, hQ g tk acc k i⟩
end
/-- tuple(d): its keys -/
def rTupD : List V → Hp → VK → Prop := fun xs H Q => ∃ (p : Addr) (kvs : List (Key × V)), xs = [.ref p] ∧ H p = some (.dK kvs) ∧ ∀ q, H q = none → Q (.ref q) (upd H q (.tup (kvs.map fun kv => kV kv.1)))
theorem call_tupleD {X : Cx} (hc : X.calm = true) : CallR X (.type "tuple") rTupD := by
  intro pins s σ H xs us Q I r h
  obtain ⟨p, kvs, rfl, hk, q⟩ := h
  obtain ⟨u, rfl, rx⟩ := vals1 r
  cases rx
  obtain ⟨z, lo, vs, rk, hd⟩ := (show ObjOk X.prog X.w H s.heap p (.dK kvs) from I.hok p _ hk)
  obtain ⟨ep, hat⟩ := hd.dictAt
  have hl : kvs.length = vs.length := Paired.length rk
  refine tuple_src (PySem.W.kdl_dict (knd := mixKind X.prog X.w) (kvs := vs) (ep := ep) lo) (I.ok.hd hc) hat (by rw [← hl]; exact z) (by decide) fun g tk acc k i => ?_
  have hv : Vals (kvs.map fun kv => kV kv.1) acc.toList := by
    refine vals_of_at (by rw [List.length_map, hl, ← i.1]; simp) fun j x u h1 h2 => ?_
    obtain ⟨key, y, hky, hi⟩ := i.2 j u (by rw [← Array.getElem?_toList]; exact h2)
    have e1 : (kvs.map (·.1))[j]? = some key := by
      rw [KV.keys rk, List.getElem?_map, hky]
      rfl
    rw [List.getElem?_map] at h1 e1
    obtain ⟨kv, hkv, rfl⟩ := Option.map_eq_some_iff.mp h1
    rw [hkv] at e1
    cases e1
    exact keyIs_rel hi
  have I1 : Inv X pins σ H { s with heap := g, toks := tk } := I.kept (t' := tk) k
  have hn : (kvs.map fun kv => kV kv.1).length ≤ sizeLine := by rw [List.length_map]; exact z
  have e : acc = acc.toList.toArray := by simp
  have I2 : Inv X pins σ (upd H g.objs.size (.tup (kvs.map fun kv => kV kv.1))) { s with heap := g.push { cls := .type "tuple", data := .seq acc }, toks := tk } :=
    I1.laid (t' := tk) (fun b o e => Heap.get?_push_of_some _ e) (Nat.le_refl _) (show ObjOk X.prog X.w _ _ _ (.tup _) from ⟨hn, acc.toList, hv, by rw [e]; exact IsTup.new _ _⟩)
  exact ⟨.ref g.objs.size, _, I2, rfl, q _ (I1.hok.fresh (Nat.le_refl _))⟩
end Gx

/-! len(set(texts)), any number of texts -/
namespace Gx
open PySem PySem.Spec PyProof.Rows
/-- a set object at a: the texts of xs, n of them -/
def Some1 (P : Program) (w : World) (h : Heap) (a : Addr) (xs : List Str) (n : Nat) : Prop := h.SetOf (PySem.strKind P w) a (fun k => decide (k ∈ xs)) n ∧ n ≤ xs.length ∧ (n = xs.length ↔ xs.Nodup)
theorem Some1.keep {P : Program} {w : World} {h g : Heap} {a : Addr} {xs : List Str} {n : Nat} (x : Some1 P w h a xs n) (k : ∀ o, h.get? a = some o → g.get? a = some o) : Some1 P w g a xs n := by
  obtain ⟨⟨o, es, ep, t, ho, rest⟩, r⟩ := x
  exact ⟨⟨o, es, ep, t, k o ho, rest⟩, r⟩
theorem Some1.put {P : Program} {w : World} {h g : Heap} {a : Addr} {xs : List Str} {x : Str} {n : Nat} (d : Some1 P w h a xs n) (e : g.SetOf (PySem.strKind P w) a (fun k => decide (k ∈ xs) || decide (k = x)) (if decide (x ∈ xs) = true then n else n + 1)) :
    ∃ m, Some1 P w g a (xs ++ [x]) m := by
  obtain ⟨_, h1, h2⟩ := d
  refine ⟨_, SetOf_congr e (fun k => by simp [List.mem_append]) rfl, ?_, ?_⟩
  · simp only [decide_eq_true_eq, List.length_append, List.length_singleton]
    split <;> omega
  · simp only [decide_eq_true_eq, List.length_append, List.length_singleton, List.nodup_append]
    by_cases hx : x ∈ xs
    · rw [if_pos hx]
      constructor
      · intro z; omega
      · intro z
        exact absurd rfl (z.2.2 x hx x (by simp))
    · rw [if_neg hx]
      constructor
      · intro z
        exact ⟨h2.mp (by omega), by simp, fun u hu v hv => by simp at hv; subst hv; exact fun q => hx (q ▸ hu)⟩
      · intro z
        have := h2.mpr z.1
        omega
theorem txt_at : ∀ {us : List Value} {xs : List Str}, StrsAre us xs → ∀ (i : Nat) (v : Value), us[i]? = some v → ∃ t x, v = .str x t ∧ xs[i]? = some x
  | _, _, .nil, i, v, h => by simp at h
  | _, _, .cons y t _, 0, v, h => by
    simp at h
    exact ⟨t, y, h.symm, rfl⟩
  | _, _, .cons _ _ r, i + 1, v, h => by
    simp only [List.getElem?_cons_succ] at h ⊢
    exact txt_at r i v h
section
variable {P : Program} {w : World} {A : Around} {R : Result → Shared → Prop} {I : Addr} {fp wr : List Addr} {G : Array GenState → Array GenState → Prop} {n : Nat} {Pv : Nat → Value → Prop} {St : Nat → Shared → Prop}
theorem texts_loop (W : WalksS P w A.in1 I fp wr G n Pv St) (S : Addr) (out : S ∉ fp) (xs : List Str) (hl : xs.length = n) (hb : xs.length + 1 < scanBound) (hv : ∀ i v, Pv i v → ∃ t x, v = .str x t ∧ xs[i]? = some x) :
    ∀ (k i m : Nat) (s : Shared), n - i = k → i ≤ n → St i s → Some1 P w s.heap S (xs.take i) m → (∀ s' m', Moved (S :: wr) G s s' → Some1 P w s'.heap S (xs.take n) m' → R (.ok (.ret .none)) s') →
      codeAny (model P w) A (.builtin "set.update.loop" ⟨[.ref S, .ref I], []⟩) R s := by
  have nw : S ∉ wr := fun z => out (W.sub _ z)
  have up : ∀ b ∈ wr, b ∈ S :: wr := fun b z => List.mem_cons_of_mem _ z
  intro k
  induction k with
  | zero =>
    intro i m s hk hi hst d last
    obtain rfl : i = n := by omega
    refine codeAny_builtin F.entry_set_update_loop ?_
    rw [Around.under_plainId F.plain_set_update_loop _]
    show wpAny _ A.in1 (pyNext (.ref I) >>= _) _ _ s
    refine wpAny_bind (W.done s _ _ hst fun s2 mv => ?_)
    show wpAny _ A.in1 (ret Value.none) _ _ s2
    exact wpAny_pure (last s2 m (mv.mono up) (d.keep fun o e => mv.heap S o nw e))
  | succ k ih =>
    intro i m s hk hi hst d last
    have lt : i < n := by omega
    refine codeAny_builtin F.entry_set_update_loop ?_
    rw [Around.under_plainId F.plain_set_update_loop _]
    show wpAny _ A.in1 (pyNext (.ref I) >>= _) _ _ s
    refine wpAny_bind (W.item i s _ _ lt hst fun v s2 hP st2 mv => ?_)
    obtain ⟨t, x, rfl, hx⟩ := hv i v hP
    have d2 := d.keep (g := s2.heap) fun o e => mv.heap S o nw e
    show wpAny _ A.in1 (holding [Value.str x t] (setAdd S (.str x t)) >>= _) _ _ s2
    refine wpAny_bind (wpAny_holding ?_)
    unfold setAdd
    refine wpAny_holding (wpAny_bind ((PySem.strKind P w).pyHash (k := x) (strKind_is _ _ _ _) ?_))
    have room : m + 1 < scanBound := by
      have a1 := d.2.1
      have a2 := List.length_take_le i xs
      have a3 : (xs.take i).length ≤ xs.length := by rw [List.length_take]; omega
      omega
    refine wpAny_setAddHashed_of (knd := PySem.strKind P w) (s := { s2 with toks := s2.toks + 1 }) (strKind_is _ _ _ _) rfl d2.1 room fun g sb e => ?_
    obtain ⟨m2, d3⟩ := d2.put e
    have tk : xs.take i ++ [x] = xs.take (i + 1) := by
      rw [List.take_succ, hx]
      rfl
    rw [tk] at d3
    refine wpAny_pure ⟨plainId_quiet F.plain_set_update_loop _, ih (i + 1) m2 _ (by omega) lt (W.frame _ s2 _ _ st2 (Nat.le_succ _) fun b hb o e => ?_) d3 fun s3 m3 mv2 d4 => ?_⟩
    · rw [sb.2 b (fun z => out (z ▸ hb))]
      exact e
    · refine last s3 m3 (Moved.trans W.gtrans ((mv.mono up).then_heap (Nat.le_succ _) fun b o hb e => ?_) mv2) d4
      rw [sb.2 b (fun z => hb (z ▸ List.mem_cons_self))]
      exact e
end
section
variable {P : Program} {w : World} {A : Around} {E : Value → Shared → Prop} {s : Shared}

set_option maxHeartbeats 3200000 in
/-- set(l), l a list of texts -/
theorem set_texts_list {l : Addr} {its : Array Value} {xs : List Str} {Q : Value → Shared → Prop} (hh : A.handled = none) (hl : s.heap.IsList l its) (hi : StrsAre its.toList xs) (hb : xs.length + 1 < scanBound)
    (h : ∀ (g : Heap) (tk n : Nat), Some1 P w g s.heap.objs.size xs n → (∀ b o, b < s.heap.objs.size → s.heap.get? b = some o → g.get? b = some o) → Q (.ref s.heap.objs.size) { s with heap := g, toks := tk }) :
    wpAny (model P w) A (call (.type "set") [.ref l]) Q E s := by
  obtain ⟨c, tl, hmro⟩ := PySem.F.called_set.mro
  have f1 := PySem.F.called_set.made
  have f2 := PySem.F.called_set.sub
  have f3 := PySem.F.called_set.notType
  have f4 := PySem.F.called_set.canCreate
  have f5 := PySem.F.typeCall_set_1 (.ref l)
  have nxs : xs.length = its.size := by rw [← StrsAre.len_eq hi, Array.length_toList]
  refine wpAny_call (codeAny_of_tree ?_)
  show wpAny _ _ (callAny (.type "set") _) _ _ _
  refine wpAny_pure ⟨Code.quiet_builtin _ (by decide +kernel), codeAny_builtin PySem.F.entry_type_call ?_⟩
  rw [Around.under_plain (weight_type_call_type "set" [.ref l] []) rfl]
  repeat (any_goals (first | assumption | wp_step))
  let N (b : Bool) : Obj := { cls := .type "set", dict := none, data := .set #[] 0 (.fresh 0 0 b) }
  refine codeAny_mono (code_set_new_1 (.ref l) (E := E) (Q₁ := fun u t => ∃ b : Bool, u = .ref s.heap.objs.size ∧ t = { s with heap := s.heap.push (N b) }) fun b => ⟨b, rfl, rfl⟩) fun r t hr => ?_
  rcases r with _ | (_ | _ | _ | u)
  · exact hr
  · exact hr.elim
  · exact hr.elim
  · exact hr.elim
  obtain ⟨b, rfl, rfl⟩ := hr
  have hN : (s.heap.push (N b)).get? s.heap.objs.size = some (N b) := Heap.get?_push_size _ rfl
  have hT : Shared.TypeIs { s with heap := s.heap.push (N b) } (.ref s.heap.objs.size) "set" := ⟨_, hN, rfl⟩
  have f6 := PySem.F.called_set.init.lookup
  have f7 := PySem.F.called_set.init.bind (.ref s.heap.objs.size)
  repeat (any_goals (first | assumption | wp_step))
  refine codeAny_mono (codeAny_call_builtin (R := wants (fun r t => r = .none ∧ ∃ g tk n, t = { s with heap := g, toks := tk } ∧ Some1 P w g s.heap.objs.size xs n ∧ (∀ b o, b < s.heap.objs.size → s.heap.get? b = some o → g.get? b = some o)) E)
    PySem.F.called_set.init.plain PySem.F.entry_set_init (check_set_init_1 hT ?_)) fun r t hr => ?_
  · obtain ⟨ol, hol, hcl, nl, hdl⟩ := hl
    obtain ⟨oc, od, odt, osl⟩ := ol
    simp only at hcl hdl
    subst hcl; subst hdl
    have hol2 : (s.heap.push (N b)).get? l = some { cls := .type "list", dict := od, data := .seq its nl, slots := osl } := Heap.get?_push_of_some _ hol
    have g1 := PySem.F.sub_list_set
    have g2 := PySem.F.sub_list_frozenset
    have g3 : (Value.type "list" == Value.type "dict") = false := by decide
    have hl1 : (s.heap.push (N b)).IsList l its := ⟨_, hol2, rfl, nl, rfl⟩
    unfold Builtin.«set.__init__» noKeywords Builtin.Frozenset.updateFrom
    generalize hPI : pyIter = PI
    wp_walk
    subst hPI
    refine wpAny_pyIter_list hl1 ?_
    refine wpAny_bind (wpAny_runValue ?_)
    have ll : l < s.heap.objs.size := Heap.lt_size hol
    have zz : (s.heap.push (N b)).objs.size = s.heap.objs.size + 1 := Heap.size_push ..
    refine texts_loop ((Walks.list (by simp [hh]) _ l (by rw [zz]; exact Nat.ne_of_lt (Nat.lt_succ_of_lt ll)) its).toS) s.heap.objs.size (by rw [zz]; simp only [List.mem_cons, List.not_mem_nil, or_false, not_or]; exact ⟨Nat.ne_of_lt (Nat.lt_succ_self _), Nat.ne_of_gt ll⟩) xs nxs hb (fun i v hv => txt_at hi i v (by rw [Array.getElem?_toList]; exact hv)) (its.size - 0) 0 0 _ (by omega) (Nat.zero_le _) ⟨⟨_, Heap.get?_push_size _ rfl, rfl, rfl⟩, hl1.push _⟩ ?_ ?_
    · have hg : ((s.heap.push (N b)).push { cls := .type "list_iterator", data := .fields #[.ref l, .int 0 0] }).get? s.heap.objs.size = some (N b) := Heap.get?_push_of_some _ hN
      refine ⟨?_, by simp, by simp⟩
      exact SetOf_congr ((setObjOf_fresh (knd := PySem.strKind P w) b).setOf hg (by unfold scanBound; omega)) (fun k => by simp) rfl
    · rintro ⟨g, gs, dr, tk, os⟩ n hm hS
      obtain rfl : gs = s.gens := hm.gens
      obtain rfl : dr = s.drawn := hm.drawn
      obtain rfl : os = s.os := hm.os
      show wpAny _ _ _ _ _ _
      refine wpAny_pure ?_
      show wpAny _ _ (ret Value.none) _ _ _
      refine wpAny_pure ⟨rfl, g, tk, n, rfl, by rwa [← nxs, List.take_length] at hS, fun c o hc e => ?_⟩
      exact hm.heap c o (by rw [zz]; simp only [List.mem_cons, List.not_mem_nil, or_false, not_or]; exact ⟨Nat.ne_of_lt hc, Nat.ne_of_lt (Nat.lt_succ_of_lt hc)⟩) (Heap.get?_push_of_some _ (Heap.get?_push_of_some _ e))
  · rcases r with _ | (_ | _ | _ | u)
    · exact hr
    · exact hr.elim
    · exact hr.elim
    · exact hr.elim
    obtain ⟨rfl, g, tk, n, rfl, hS, hk⟩ := hr
    repeat (any_goals (first | assumption | wp_step))
    exact h _ _ _ hS hk

set_option maxHeartbeats 3200000 in
/-- set(l), l a tuple of texts -/
theorem set_texts_tuple {l : Addr} {its : Array Value} {xs : List Str} {Q : Value → Shared → Prop} (hh : A.handled = none) (hl : s.heap.IsTuple l its) (hi : StrsAre its.toList xs) (hb : xs.length + 1 < scanBound)
    (h : ∀ (g : Heap) (tk n : Nat), Some1 P w g s.heap.objs.size xs n → (∀ b o, b < s.heap.objs.size → s.heap.get? b = some o → g.get? b = some o) → Q (.ref s.heap.objs.size) { s with heap := g, toks := tk }) :
    wpAny (model P w) A (call (.type "set") [.ref l]) Q E s := by
  obtain ⟨c, tl, hmro⟩ := PySem.F.called_set.mro
  have f1 := PySem.F.called_set.made
  have f2 := PySem.F.called_set.sub
  have f3 := PySem.F.called_set.notType
  have f4 := PySem.F.called_set.canCreate
  have f5 := PySem.F.typeCall_set_1 (.ref l)
  have nxs : xs.length = its.size := by rw [← StrsAre.len_eq hi, Array.length_toList]
  refine wpAny_call (codeAny_of_tree ?_)
  show wpAny _ _ (callAny (.type "set") _) _ _ _
  refine wpAny_pure ⟨Code.quiet_builtin _ (by decide +kernel), codeAny_builtin PySem.F.entry_type_call ?_⟩
  rw [Around.under_plain (weight_type_call_type "set" [.ref l] []) rfl]
  repeat (any_goals (first | assumption | wp_step))
  let N (b : Bool) : Obj := { cls := .type "set", dict := none, data := .set #[] 0 (.fresh 0 0 b) }
  refine codeAny_mono (code_set_new_1 (.ref l) (E := E) (Q₁ := fun u t => ∃ b : Bool, u = .ref s.heap.objs.size ∧ t = { s with heap := s.heap.push (N b) }) fun b => ⟨b, rfl, rfl⟩) fun r t hr => ?_
  rcases r with _ | (_ | _ | _ | u)
  · exact hr
  · exact hr.elim
  · exact hr.elim
  · exact hr.elim
  obtain ⟨b, rfl, rfl⟩ := hr
  have hN : (s.heap.push (N b)).get? s.heap.objs.size = some (N b) := Heap.get?_push_size _ rfl
  have hT : Shared.TypeIs { s with heap := s.heap.push (N b) } (.ref s.heap.objs.size) "set" := ⟨_, hN, rfl⟩
  have f6 := PySem.F.called_set.init.lookup
  have f7 := PySem.F.called_set.init.bind (.ref s.heap.objs.size)
  repeat (any_goals (first | assumption | wp_step))
  refine codeAny_mono (codeAny_call_builtin (R := wants (fun r t => r = .none ∧ ∃ g tk n, t = { s with heap := g, toks := tk } ∧ Some1 P w g s.heap.objs.size xs n ∧ (∀ b o, b < s.heap.objs.size → s.heap.get? b = some o → g.get? b = some o)) E)
    PySem.F.called_set.init.plain PySem.F.entry_set_init (check_set_init_1 hT ?_)) fun r t hr => ?_
  · obtain ⟨ol, hol, hcl, nl, hdl⟩ := hl
    obtain ⟨oc, od, odt, osl⟩ := ol
    simp only at hcl hdl
    subst hcl; subst hdl
    have hol2 : (s.heap.push (N b)).get? l = some { cls := .type "tuple", dict := od, data := .seq its nl, slots := osl } := Heap.get?_push_of_some _ hol
    have g1 := PySem.F.sub_tuple_set
    have g2 := PySem.F.sub_tuple_frozenset
    have g3 : (Value.type "tuple" == Value.type "dict") = false := by decide
    have hl1 : (s.heap.push (N b)).IsTuple l its := ⟨_, hol2, rfl, nl, rfl⟩
    unfold Builtin.«set.__init__» noKeywords Builtin.Frozenset.updateFrom
    generalize hPI : pyIter = PI
    wp_walk
    subst hPI
    refine wpAny_pyIter_tuple hl1 ?_
    refine wpAny_bind (wpAny_runValue ?_)
    have ll : l < s.heap.objs.size := Heap.lt_size hol
    have zz : (s.heap.push (N b)).objs.size = s.heap.objs.size + 1 := Heap.size_push ..
    refine texts_loop ((Walks.tuple (by simp [hh]) _ l (by rw [zz]; exact Nat.ne_of_lt (Nat.lt_succ_of_lt ll)) its).toS) s.heap.objs.size (by rw [zz]; simp only [List.mem_cons, List.not_mem_nil, or_false, not_or]; exact ⟨Nat.ne_of_lt (Nat.lt_succ_self _), Nat.ne_of_gt ll⟩) xs nxs hb (fun i v hv => txt_at hi i v (by rw [Array.getElem?_toList]; exact hv)) (its.size - 0) 0 0 _ (by omega) (Nat.zero_le _) ⟨⟨_, Heap.get?_push_size _ rfl, rfl, rfl⟩, hl1.push _⟩ ?_ ?_
    · have hg : ((s.heap.push (N b)).push { cls := .type "tuple_iterator", data := .fields #[.ref l, .int 0 0] }).get? s.heap.objs.size = some (N b) := Heap.get?_push_of_some _ hN
      refine ⟨?_, by simp, by simp⟩
      exact SetOf_congr ((setObjOf_fresh (knd := PySem.strKind P w) b).setOf hg (by unfold scanBound; omega)) (fun k => by simp) rfl
    · rintro ⟨g, gs, dr, tk, os⟩ n hm hS
      obtain rfl : gs = s.gens := hm.gens
      obtain rfl : dr = s.drawn := hm.drawn
      obtain rfl : os = s.os := hm.os
      show wpAny _ _ _ _ _ _
      refine wpAny_pure ?_
      show wpAny _ _ (ret Value.none) _ _ _
      refine wpAny_pure ⟨rfl, g, tk, n, rfl, by rwa [← nxs, List.take_length] at hS, fun c o hc e => ?_⟩
      exact hm.heap c o (by rw [zz]; simp only [List.mem_cons, List.not_mem_nil, or_false, not_or]; exact ⟨Nat.ne_of_lt hc, Nat.ne_of_lt (Nat.lt_succ_of_lt hc)⟩) (Heap.get?_push_of_some _ (Heap.get?_push_of_some _ e))
  · rcases r with _ | (_ | _ | _ | u)
    · exact hr
    · exact hr.elim
    · exact hr.elim
    · exact hr.elim
    obtain ⟨rfl, g, tk, n, rfl, hS, hk⟩ := hr
    repeat (any_goals (first | assumption | wp_step))
    exact h _ _ _ hS hk

end
end Gx
namespace Gx
open PySem PySem.Spec PyProof.Rows L2
/-- len(set(xs)), xs a list or a tuple of texts: as many as xs exactly if they are different -/
def tLenSetT (K : PySem.W.Frag) (ta : TE) : TE := fun σ H Q => ta σ H fun x H1 => ∃ (l : Addr) (xs : List Str), x = .ref l ∧ (SqL K H1 l (xs.map V.str) ∨ SqT K H1 l (xs.map V.str)) ∧ xs.length < 1000 ∧ ∀ n : Nat, n ≤ xs.length → (n = xs.length ↔ xs.Nodup) → Q (.int n) H1
theorem txts_of : ∀ {ys : List Str} {us : List Value}, Vals (ys.map V.str) us → StrsAre us ys
  | [], _, .nil => .nil
  | y :: ys, _, .cons r t => by
    obtain ⟨k, rfl⟩ := r
    exact .cons y k (txts_of t)
section
variable {X : Cx}
theorem pe_lenSetT {a : Expr} {ta : TE} {p p2 q pos : Pos} (hc : X.calm = true) (hg : Gl X "len") (hm : X.mg "len" = none) (hg2 : Gl X "set") (hm2 : X.mg "set" = none) (ha : PE X a ta)
    (na : starEach [a] X.env = (false, eval a X.env) :: starEach [] X.env := by rfl) : PE X (.Call (.Name "len" p) [.Call (.Name "set" p2) [a] [] q] [] pos) (tLenSetT X.K ta) := by
  refine ⟨fun pins s σ H Q I h => ?_⟩
  refine Call_ (ld_blt I hg hm boot_len ?_)
  refine callWith_builtin1 (args_cons ?_ rfl) rfl rfl
  refine Call_ (ld_blt I hg2 hm2 boot_set ?_)
  refine callWith_type1 (args_cons (thn (ha.run pins s σ H _ I h) fun v s1 ⟨x, H1, I1, r1, z⟩ => args_nil ?_) na) na rfl
  obtain ⟨l, xs, rfl, hq, few, out⟩ := z
  cases r1
  have fin : ∀ (g : Heap) (tk n : Nat), Some1 X.prog X.w g s1.heap.objs.size xs n → (∀ b o, b < s1.heap.objs.size → s1.heap.get? b = some o → g.get? b = some o) →
      wpAny (model X.prog X.w) X.A (spliced (backTo pos (starEach [] X.env))) (fun vs t => wpAny (model X.prog X.w) X.A (call (.builtin "len") (Value.ref s1.heap.objs.size :: vs)) (EP X pins σ Q) X.xe t) X.xe { s1 with heap := g, toks := tk } := by
    intro g tk n d hk
    obtain ⟨⟨o, es, ep, t, ho, hex, hd, _, _, _, hf, hn⟩, d1, d2⟩ := d
    have I2 : Inv X pins σ H1 { s1 with heap := g, toks := tk } := I1.kept fun b o e => hk b o (Heap.lt_size e) e
    exact args_nil (call_len_set ho hex hd hf (by rw [hn]; omega) ⟨.int n, H1, I2.tok _, ⟨_, by rw [hn]⟩, out n d1 d2⟩)
  have few2 : xs.length + 1 < scanBound := Nat.lt_trans (by omega : xs.length + 1 < 1001) (by decide)
  rcases hq with hq | hq
  · obtain ⟨us, r, pl, _⟩ := I1.list hq
    exact set_texts_list (I1.ok.hd hc) pl.isList (by simpa using txts_of r) few2 fin
  · obtain ⟨us, r, pl, _⟩ := I1.tuple hq
    exact set_texts_tuple (I1.ok.hd hc) pl (by simpa using txts_of r) few2 fin
end
end Gx

/-! methods, instances and constants by name -/
namespace Gx
open PySem PySem.Spec PyProof.Rows L2
section
variable {X : Cx} {x : Str} {pos : Pos}
theorem pe_globI {i : Int} (hg : Gl X x) (h : ∃ t, X.mg x = some (.int i t)) (hd : (x == ("__debug__" : Str)) = false := by decide) : PE X (.Name x pos) (tC (.int i)) := h.elim fun t e => pe_glob (v := .int i) hg e ⟨t, rfl⟩ hd
theorem pe_globS {z : Str} (hg : Gl X x) (h : ∃ t, X.mg x = some (.str z t)) (hd : (x == ("__debug__" : Str)) = false := by decide) : PE X (.Name x pos) (tC (.str z)) := h.elim fun t e => pe_glob (v := .str z) hg e ⟨t, rfl⟩ hd
end
/-! rules whose K is told, for comprehensions -/
section
variable {X : Cx} {K : PySem.W.Frag}
theorem op_in_seqK (h : X.K = K) : OpR X (compareOp .In) (rIn K false) := h ▸ op_in_seq
theorem op_notIn_seqK (h : X.K = K) : OpR X (compareOp .NotIn) (rIn K true) := h ▸ op_notIn_seq
theorem ix_tupK (h : X.K = K) : IxR X (rIxT K) := h ▸ ix_tup
theorem ix_listK (h : X.K = K) : IxR X (rIxL K) := h ▸ ix_list
/-- tuple(x) of a list or a tuple -/
def rTupK (K : PySem.W.Frag) : List V → Hp → VK → Prop := fun xs H Q => ∃ p ys, xs = [.ref p] ∧ ((SqL K H p ys ∧ ∀ l, H l = none → Q (.ref l) (upd H l (.tup ys))) ∨ (SqT K H p ys ∧ Q (.ref p) H))
theorem call_tuple_ofK (h : X.K = K) : CallR X (.type "tuple") (rTupK K) := h ▸ call_tuple_of
end
/-- a method of the class at C, ready to be called -/
structure CaM (P : Program) (w : World) (K : PySem.W.Frag) (mg : Str → Option Value) (base : Heap) (CX : CXT) (k : Nat) (C : Addr) (m : Str) (sp : Sp) : Prop where
  ex : ∃ f fd ps, FnOk P w K mg base CX k f fd ps sp ∧ Binds K fd ps [] ∧ Meth K C m f ∧ Cls K C
/-- a class by its name, its instances made by __init__ -/
structure CaI (P : Program) (w : World) (K : PySem.W.Frag) (mg : Str → Option Value) (base : Heap) (CX : CXT) (k : Nat) (x : Str) (C : Addr) (sp : Sp) : Prop where
  ex : ∃ f fd ps, FnOk P w K mg base CX k f fd ps sp ∧ Binds K fd ps [] ∧ Mk K C f ∧ mg x = some (.ref C)
section
variable {X : Cx} {CX : CXT} {k : Nat} {C : Addr} {m x : Str} {sp : Sp} {E : XK} {o e : Expr} {es : List Expr} {ta : TE} {t : TA} {apos pos p : Pos} {pl : Sem Bool}
theorem pe_cm (c : CaM X.prog X.w X.K X.mg X.base CX k C m sp) (hr : Room k X.A) (hx : Passes CX X E) (ho : PE X o ta) (ha : PA X (e :: es) t)
    (hst : starEach (e :: es) X.env = (false, eval e X.env) :: starEach es X.env := by rfl) (hpl : (backTo pos (starEach es X.env)).any (·.1) = false := by rfl)
    (ht : eval (.Call (.Attribute o m apos) (e :: es) [] pos) X.env = (do
      let ov ← eval o X.env
      standAt apos.atName
      let (f, first) ← holding [ov] (getMethod ov m pl)
      callWith pos f first (backTo pos (starEach (e :: es) X.env)) (backToKw pos (keywordEach [] X.env))) := by rfl) : PE X (.Call (.Attribute o m apos) (e :: es) [] pos) (tMeth C m sp [] E ta t) := by
  obtain ⟨f, fd, ps, F, hb, hm, cl⟩ := c.ex
  exact pe_meth ho cl hm F hr hb .nil hx ha hst hpl ht
/-- .. within a try -/
def tMethS2 (C : Addr) (m : Str) (sp : Sp) (E : L2.St → XK) (ta : TE) (t : TA) : TE := fun σ H Q => ta σ H fun x H1 => ∃ a dx fs, x = .ref a ∧ H1 a = some (.ins C dx fs) ∧ fs.lookup m = none ∧ t σ H1 fun vs H2 => sp (x :: vs) H2 Q (E σ)
theorem pe_cmS {E : L2.St → XK} (c : CaM X.prog X.w X.K X.mg X.base CX k C m sp) (hr : Room k X.A) (hx : ∀ σ, PassesAt CX X σ (E σ)) (ho : PE X o ta) (ha : PA X (e :: es) t)
    (hst : starEach (e :: es) X.env = (false, eval e X.env) :: starEach es X.env := by rfl) (hpl : (backTo pos (starEach es X.env)).any (·.1) = false := by rfl)
    (ht : eval (.Call (.Attribute o m apos) (e :: es) [] pos) X.env = (do
      let ov ← eval o X.env
      standAt apos.atName
      let (f, first) ← holding [ov] (getMethod ov m pl)
      callWith pos f first (backTo pos (starEach (e :: es) X.env)) (backToKw pos (keywordEach [] X.env))) := by rfl) : PE X (.Call (.Attribute o m apos) (e :: es) [] pos) (tMethS2 C m sp E ta t) := by
  obtain ⟨f, fd, ps, F, hb, hm, cl⟩ := c.ex
  refine ⟨fun pins s σ H Q I h => ?_⟩
  refine PySem.W.methodCall_KW (pl := pl) (thn (ho.run pins s σ H _ I h) fun u s1 ⟨x, H1, I1, rx, a, dx, fs, ex, ea, l, q⟩ => ?_) ht
  subst ex
  cases rx
  refine getmeth_ok I1 ea cl hm l ?_
  refine PySem.W.callWith_K (first := [.ref a]) (h₀ := X.base) I.ok.mod.kin hm.kp (thn (ha.run pos pins s1 σ H1 _ I1 q) fun us s2 ⟨vs, H2, I2, r, q2⟩ => ⟨I2.kIn, ?_⟩) hst hpl
  exact run_fnS (us := .ref a :: us) (vs := .ref a :: vs) F hr hb (hx σ) I2 (.cons rfl r) q2
theorem pe_mk (c : CaI X.prog X.w X.K X.mg X.base CX k x C sp) (hr : Room (k + 1) X.A) (hg : Gl X x) (hx : Passes CX X E) (ha : PA X (e :: es) t) (hdb : (x == ("__debug__" : Str)) = false := by decide) (he : starEach (e :: es) X.env = (false, eval e X.env) :: starEach es X.env := by rfl)
    (hpl : (backTo pos (starEach es X.env)).any (·.1) = false := by rfl) : PE X (.Call (.Name x p) (e :: es) [] pos) (tMake C sp [] E t) := by
  obtain ⟨f, fd, ps, F, hb, M, hm⟩ := c.ex
  exact pe_make M F hr hg hm hb .nil hx ha hdb he hpl
end
end Gx

/-! menus as the document has them, and how they lie in the heap -/
namespace Gx
open PySem PySem.Spec PyProof.Rows L2
section
variable {X : Cx} {tg e : Expr}
theorem pi_or {w1 w2 : TI} (h1 : PI X tg e w1) (h2 : PI X tg e w2) : PI X tg e (fun σ H R => w1 σ H R ∨ w2 σ H R) := ⟨fun pins s σ H R I h => h.elim (h1.run pins s σ H R I) (h2.run pins s σ H R I)⟩
end
/-- a comprehension whose turns all give True and leave what was -/
theorem lc_yes {J : It} {xs : List V} {G : Hp → Prop} (w : Walk J xs.length G (YAt xs)) {g : TG} {te : TE} {vs : List Nat} {σ : L2.St} {H1 : Hp} {D : Addr} {Qd : Hp → Prop} (hD : H1 D = none) (hl : xs.length ≤ sizeLine) (hG : ∀ H', Same H1 H' → G H')
    (turn : ∀ x ∈ xs, ∀ (H' : Hp) (R : VK), Same H1 H' → (∀ H3, Same H' H3 → R (.bl true) H3) → g x (wipe σ vs) H' fun σ2 H2 => wipe σ2 vs = wipe σ vs ∧ te σ2 H2 R)
    (done : ∀ H', Same H1 H' → H' D = some (.lst (List.replicate xs.length (.bl true))) → Qd H') :
    ∃ W : Nat → Nat → Hp → Prop, (∃ m, W 0 m (upd H1 D (.lst []))) ∧ ∀ i m H, W i m H →
      (J.stop i H ∧ Qd H) ∨ (J.go i H ∧ ∃ Nx : Hp → Prop, (∀ H', Nx H' → ∃ m', m' < m ∧ W (i + 1) m' H') ∧ ∀ x H', J.yld i H x H' → g x (wipe σ vs) H' fun σ2 H2 => wipe σ2 vs = wipe σ vs ∧ tYes σ2 H2 fun b H3 =>
        if b = true then te σ2 H3 fun y H4 => ∃ acc, H4 D = some (.lst acc) ∧ acc.length < sizeLine ∧ Nx (upd H4 D (.lst (acc ++ [y]))) else Nx H3) := by
  refine lc_it w (tt := tYes) (fun i H' => Same H1 H' ∧ H' D = some (.lst (List.replicate i (.bl true)))) ⟨Same.new hD, upd_same⟩ (fun i H' _ z => hG _ z.1) (fun i x H2 H' hi z y => ?_) (fun H' z => done H' z.1 z.2)
  obtain ⟨rfl, hx⟩ := y
  exact turn x (List.mem_of_getElem? hx) _ _ z.1 fun H3 k => ⟨_, k _ _ z.2, by rw [List.length_replicate]; omega, Same.over (z.1.trans k) hD, by rw [upd_same, List.replicate_succ']⟩
theorem Room.u65 {k : Nat} {A : Around} (r : Room k A) : A.units + 65 < cLine := by have := r.un; omega
theorem Room.u1 {k : Nat} {A : Around} (r : Room k A) : A.units + 1 < cLine := by have := r.un; omega
/-- a list or a tuple of these texts -/
def Sq (K : PySem.W.Frag) (H : Hp) (v : V) (xs : List Str) : Prop := ∃ a, v = .ref a ∧ (SqL K H a (xs.map V.str) ∨ SqT K H a (xs.map V.str))
theorem Sq.same {K : PySem.W.Frag} {H H' : Hp} {v : V} {xs : List Str} (h : Sq K H v xs) (k : Same H H') : Sq K H' v xs := by
  obtain ⟨a, e, h⟩ := h
  exact ⟨a, e, h.imp (SqL.same · k) (SqT.same · k)⟩
theorem tyx_list {K : PySem.W.Frag} {H : Hp} {a : Addr} {xs : List V} (h : SqL K H a xs) : TyX K H (.ref a) (.type "list") := by
  rcases h with (h | ⟨o, h⟩) | ⟨o, _, _, h, c, _⟩
  · exact .base (.lst h)
  · exact .base (.frz h)
  · exact .kList h c
theorem tyx_tup {K : PySem.W.Frag} {H : Hp} {a : Addr} {xs : List V} (h : SqT K H a xs) : TyX K H (.ref a) (.type "tuple") := by
  rcases h with (h | ⟨o, h⟩) | ⟨o, _, _, h, c, _⟩
  · exact .base (.tup h)
  · exact .fTuple h
  · exact .kTuple h c
theorem Sq.ty {K : PySem.W.Frag} {H : Hp} {v : V} {xs : List Str} (h : Sq K H v xs) : ∃ T, TyX K H v T ∧ PySem.W.kitAny K T [.type "list", .type "tuple"] = some true := by
  obtain ⟨a, rfl, h | h⟩ := h
  · exact ⟨_, tyx_list h, kitAny_cons (b := true) (kit_ty (by decide +kernel)) (fun z => nomatch z) (fun _ => rfl)⟩
  · exact ⟨_, tyx_tup h, kitAny_cons (b := false) (kit_ty (by decide +kernel)) (fun _ => kitAny_cons (b := true) (kit_ty (by decide +kernel)) (fun z => nomatch z) (fun _ => rfl)) (fun z => nomatch z)⟩
/-- a plain name -/
def NM (x : Str) : Prop := 1 ≤ x.length ∧ x.length ≤ 8 ∧ ∀ c ∈ x.cps.toList, 97 ≤ c ∧ c ≤ 122
structure Ent where
  name : Str
  wishes : List Str
  back : Str
  later : List Str
  deriving DecidableEq
structure Bs where
  things : List Str
  ws : List Ent
  deriving DecidableEq
def Bs.names (b : Bs) : List Str := b.ws.map Ent.name
structure WE (things names : List Str) (e : Ent) : Prop where
  w : ∀ x ∈ e.wishes, x ∈ things
  wd : e.wishes.Nodup
  l : ∀ x ∈ e.later, x ∈ names
  ld : e.later.Nodup
  l0 : e.later ≠ []
  b : e.back = "top" ∨ e.back = "place"
structure WF (b : Bs) : Prop where
  t1 : 1 ≤ b.things.length
  t5 : b.things.length ≤ 5
  tn : ∀ x ∈ b.things, NM x
  td : b.things.Nodup
  w1 : 1 ≤ b.ws.length
  w4 : b.ws.length ≤ 4
  wn : ∀ x ∈ b.names, NM x
  wd : b.names.Nodup
  we : ∀ e ∈ b.ws, WE b.things b.names e
theorem nodup_len {α : Type} [DecidableEq α] : ∀ {xs ys : List α}, xs.Nodup → (∀ x ∈ xs, x ∈ ys) → xs.length ≤ ys.length
  | [], ys, _, _ => Nat.zero_le _
  | x :: xs, ys, nd, h => by
    rw [List.nodup_cons] at nd
    have hx : x ∈ ys := h x List.mem_cons_self
    have ih := nodup_len (xs := xs) (ys := ys.erase x) nd.2 (fun y hy => by
      have ne : y ≠ x := fun e => nd.1 (by rw [← e]; exact hy)
      exact (List.mem_erase_of_ne ne).mpr (h y (List.mem_cons_of_mem _ hy)))
    rw [List.length_erase_of_mem hx] at ih
    have := List.length_pos_of_mem hx
    simp only [List.length_cons]
    omega
/-- a weather's entry as it is handed in: (wishes, back, later) -/
def EntAt (K : PySem.W.Frag) (H : Hp) (v : V) (e : Ent) : Prop := ∃ (t : Addr) (w l : V), v = .ref t ∧ SqT K H t [w, .str e.back, l] ∧ Sq K H w e.wishes ∧ Sq K H l e.later
theorem EntAt.same {K : PySem.W.Frag} {H H' : Hp} {v : V} {e : Ent} (h : EntAt K H v e) (k : Same H H') : EntAt K H' v e := by
  obtain ⟨t, w, l, rfl, h1, h2, h3⟩ := h
  exact ⟨t, w, l, rfl, SqT.same h1 k, h2.same k, h3.same k⟩
/-- a dict's pairs: names to entries -/
def EntsAt (K : PySem.W.Frag) (H : Hp) (kvs : List (Key × V)) (ws : List Ent) : Prop := Paired (fun (p : Key × V) (e : Ent) => p.1 = .inr e.name ∧ EntAt K H p.2 e) kvs ws
theorem Paired.imp2 {α β : Type} {R S : α → β → Prop} (f : ∀ a b, R a b → S a b) : ∀ {xs : List α} {ys : List β}, Paired R xs ys → Paired S xs ys
  | _, _, .nil => .nil
  | _, _, .cons h t => .cons (f _ _ h) (Paired.imp2 f t)
theorem EntsAt.same {K : PySem.W.Frag} {H H' : Hp} {kvs : List (Key × V)} {ws : List Ent} (h : EntsAt K H kvs ws) (k : Same H H') : EntsAt K H' kvs ws := Paired.imp2 (fun _ _ q => ⟨q.1, q.2.same k⟩) h
theorem Paired.at2 {α β : Type} {R : α → β → Prop} : ∀ {xs : List α} {ys : List β}, Paired R xs ys → ∀ {i : Nat} {x : α}, xs[i]? = some x → ∃ y, ys[i]? = some y ∧ R x y
  | _, _, .nil, i, x, h => by simp at h
  | _, _, .cons h t, 0, x, e => by
    simp at e
    subst e
    exact ⟨_, rfl, h⟩
  | _, _, .cons h t, i + 1, x, e => by
    simp only [List.getElem?_cons_succ] at e ⊢
    exact Paired.at2 t e
theorem EntsAt.keys {K : PySem.W.Frag} {H : Hp} : ∀ {kvs : List (Key × V)} {ws : List Ent}, EntsAt K H kvs ws → kvs.map (·.1) = ws.map (fun e => Sum.inr e.name)
  | _, _, .nil => rfl
  | _, _, .cons h t => by simp [h.1, EntsAt.keys t]
/-- wishes or later ones, told: names to tuples of texts -/
def TupsAt (K : PySem.W.Frag) (H : Hp) (kvs : List (Key × V)) (ps : List (Str × List Str)) : Prop := Paired (fun (p : Key × V) (e : Str × List Str) => p.1 = .inr e.1 ∧ ∃ a, p.2 = .ref a ∧ SqT K H a (e.2.map V.str)) kvs ps
theorem TupsAt.same {K : PySem.W.Frag} {H H' : Hp} {kvs : List (Key × V)} {ps : List (Str × List Str)} (h : TupsAt K H kvs ps) (k : Same H H') : TupsAt K H' kvs ps := Paired.imp2 (fun _ _ ⟨q, a, e, z⟩ => ⟨q, a, e, SqT.same z k⟩) h
/-- the menu at m is b -/
def IsM (K : PySem.W.Frag) (H : Hp) (m : Addr) (b : Bs) : Prop := ∃ (dx t1 t2 d1 d2 d3 : Addr) (k1 k3 : List (Key × V)),
  H m = some (.ins (He.ga K "Menu") dx [("_things", .ref t1), ("_weathers", .ref t2), ("_wishes", .ref d1), ("_back", .ref d2), ("_later", .ref d3)]) ∧ H dx = some (.own m) ∧ SqT K H t1 (b.things.map V.str) ∧ SqT K H t2 (b.names.map V.str) ∧
  H d1 = some (.dK k1) ∧ TupsAt K H k1 (b.ws.map fun e => (e.name, e.wishes)) ∧ H d2 = some (.dK (b.ws.map fun e => (.inr e.name, .str e.back))) ∧ H d3 = some (.dK k3) ∧ TupsAt K H k3 (b.ws.map fun e => (e.name, e.later))
theorem IsM.same {K : PySem.W.Frag} {H H' : Hp} {m : Addr} {b : Bs} (h : IsM K H m b) (k : Same H H') : IsM K H' m b := by
  obtain ⟨dx, t1, t2, d1, d2, d3, k1, k3, h1, h0, h2, h3, h4, h5, h6, h7, h8⟩ := h
  exact ⟨dx, t1, t2, d1, d2, d3, k1, k3, k _ _ h1, k _ _ h0, SqT.same h2 k, SqT.same h3 k, k _ _ h4, h5.same k, k _ _ h6, k _ _ h7, h8.same k⟩
/-! the promises of the program's defs, for what is right -/
def spIsName : Sp := fun vs H Q _ => ∃ x, vs = [.str x] ∧ NM x ∧ ∀ H', Same H H' → Q (.bl true) H'
def spDiff (K : PySem.W.Frag) : Sp := fun vs H Q _ => ∃ v xs, vs = [v] ∧ Sq K H v xs ∧ xs.length < 1000 ∧ xs.Nodup ∧ Q (.bl true) H
def spThings (K : PySem.W.Frag) : Sp := fun vs H Q _ => ∃ v xs, vs = [v] ∧ Sq K H v xs ∧ 1 ≤ xs.length ∧ xs.length ≤ 5 ∧ (∀ x ∈ xs, NM x) ∧ xs.Nodup ∧ ∀ H', Same H H' → Q (.bl true) H'
def spRow (K : PySem.W.Frag) : Sp := fun vs H Q _ => ∃ v ns xs ys, vs = [v, ns] ∧ Sq K H v xs ∧ Sq K H ns ys ∧ ys.length < 1000 ∧ (∀ x ∈ xs, x ∈ ys) ∧ xs.Nodup ∧ ∀ H', Same H H' → Q (.bl true) H'
def spEntry (K : PySem.W.Frag) : Sp := fun vs H Q _ => ∃ v tv wv e ts ns, vs = [v, tv, wv] ∧ EntAt K H v e ∧ Sq K H tv ts ∧ Sq K H wv ns ∧ ts.length < 1000 ∧ ns.length < 1000 ∧ WE ts ns e ∧ ∀ H', Same H H' → Q (.bl true) H'
def spWeathers (K : PySem.W.Frag) : Sp := fun vs H Q _ => ∃ d tv b kvs, vs = [.ref d, tv] ∧ H d = some (.dK kvs) ∧ EntsAt K H kvs b.ws ∧ Sq K H tv b.things ∧ WF b ∧ ∀ H', Same H H' → Q (.bl true) H'
end Gx

/-! what stays when one object is written; dict comprehensions over a dict of names; how a menu is made -/
namespace Gx
open PySem PySem.Spec PyProof.Rows L2
/-- all but m stays -/
def Kp (m : Addr) (H H' : Hp) : Prop := ∀ a o, a ≠ m → H a = some o → H' a = some o
theorem Same.kp {m : Addr} {H H' : Hp} (k : Same H H') : Kp m H H' := fun a o _ e => k a o e
theorem Kp.put {m : Addr} {H : Hp} {o : HO} : Kp m H (upd H m o) := fun a u n e => by rw [upd_ne n]; exact e
theorem Kp.trans {m : Addr} {H H' H'' : Hp} (k : Kp m H H') (k' : Kp m H' H'') : Kp m H H'' := fun a o n e => k' a o n (k a o n e)
/-- no list and no tuple at m -/
def NoSq (H : Hp) (m : Addr) : Prop := ∀ xs, ¬ Rd H m (.lst xs) ∧ ¬ Rd H m (.tup xs)
theorem NoSq.ins {H : Hp} {m C dx : Addr} {fs : List (Str × V)} (e : H m = some (.ins C dx fs)) : NoSq H m := fun xs => by
  refine ⟨fun z => ?_, fun z => ?_⟩ <;> (rcases z with z | ⟨o2, z⟩ <;> (rw [e] at z; cases z))
theorem NoSq.dK {H : Hp} {m : Addr} {kvs : List (Key × V)} (e : H m = some (.dK kvs)) : NoSq H m := fun xs => by
  refine ⟨fun z => ?_, fun z => ?_⟩ <;> (rcases z with z | ⟨o2, z⟩ <;> (rw [e] at z; cases z))
theorem NoSq.fdK {H : Hp} {m : Addr} {o : Obj} {kvs : List (Key × V)} (e : H m = some (.frz o (.dK kvs))) : NoSq H m := fun xs => by
  refine ⟨fun z => ?_, fun z => ?_⟩ <;> (rcases z with z | ⟨o2, z⟩ <;> (rw [e] at z; cases z))
section
variable {K : PySem.W.Frag} {m : Addr} {H H' : Hp}
theorem SqT.kp {a : Addr} {xs : List V} (h : SqT K H a xs) (k : Kp m H H') (n : NoSq H m) : SqT K H' a xs := by
  rcases h with h | h
  · have ne : a ≠ m := fun e => (n xs).2 (e ▸ h)
    rcases h with h | ⟨o, h⟩
    · exact .inl (.inl (k _ _ ne h))
    · exact .inl (.inr ⟨o, k _ _ ne h⟩)
  · exact .inr h
theorem SqL.kp {a : Addr} {xs : List V} (h : SqL K H a xs) (k : Kp m H H') (n : NoSq H m) : SqL K H' a xs := by
  rcases h with h | h
  · have ne : a ≠ m := fun e => (n xs).1 (e ▸ h)
    rcases h with h | ⟨o, h⟩
    · exact .inl (.inl (k _ _ ne h))
    · exact .inl (.inr ⟨o, k _ _ ne h⟩)
  · exact .inr h
theorem Sq.kp {v : V} {xs : List Str} (h : Sq K H v xs) (k : Kp m H H') (n : NoSq H m) : Sq K H' v xs := by
  obtain ⟨a, e, h⟩ := h
  exact ⟨a, e, h.imp (SqL.kp · k n) (SqT.kp · k n)⟩
theorem EntAt.kp {v : V} {e : Ent} (h : EntAt K H v e) (k : Kp m H H') (n : NoSq H m) : EntAt K H' v e := by
  obtain ⟨t, w, l, rfl, h1, h2, h3⟩ := h
  exact ⟨t, w, l, rfl, SqT.kp h1 k n, h2.kp k n, h3.kp k n⟩
theorem EntsAt.kp {kvs : List (Key × V)} {ws : List Ent} (h : EntsAt K H kvs ws) (k : Kp m H H') (n : NoSq H m) : EntsAt K H' kvs ws := Paired.imp2 (fun _ _ q => ⟨q.1, q.2.kp k n⟩) h
theorem TupsAt.kp {kvs : List (Key × V)} {ps : List (Str × List Str)} (h : TupsAt K H kvs ps) (k : Kp m H H') (n : NoSq H m) : TupsAt K H' kvs ps := Paired.imp2 (fun _ _ ⟨q, a, e, z⟩ => ⟨q, a, e, SqT.kp z k n⟩) h
/-- tuple(v), v a list or a tuple of texts -/
theorem tupOf {v : V} {xs : List Str} {R : VK} (h : Sq K H v xs) (r : ∀ t H3, Same H H3 → SqT K H3 t (xs.map V.str) → R (.ref t) H3) :
    rTupK K [v] H R := by
  obtain ⟨a, rfl, h | h⟩ := h
  · exact ⟨a, _, rfl, .inl ⟨h, fun l hl => r l _ (Same.new hl) (.inl (.inl upd_same))⟩⟩
  · exact ⟨a, _, rfl, .inr ⟨h, r a _ (Same.refl _) h⟩⟩
theorem unlock {d : Addr} {od : Obj} {u : HO} (k : Same (upd H d (.frz od u)) H') (e : H d = some u) : Same H (upd H' d u) := fun b o h => by
  by_cases hb : b = d
  · subst hb
    rw [upd_same, ← e, h]
  · rw [upd_ne hb]
    exact k b o (by rw [upd_ne hb]; exact h)
end
theorem nodup_inj {α : Type} : ∀ {xs : List α} {i j : Nat} {x : α}, xs.Nodup → xs[i]? = some x → xs[j]? = some x → i = j
  | [], i, j, x, _, h, _ => by simp at h
  | a :: xs, 0, 0, x, _, _, _ => rfl
  | a :: xs, 0, j + 1, x, nd, h1, h2 => by
    simp at h1 h2
    subst h1
    exact absurd (List.mem_of_getElem? h2) (List.nodup_cons.mp nd).1
  | a :: xs, i + 1, 0, x, nd, h1, h2 => by
    simp at h1 h2
    subst h2
    exact absurd (List.mem_of_getElem? h1) (List.nodup_cons.mp nd).1
  | a :: xs, i + 1, j + 1, x, nd, h1, h2 => by
    simp only [List.getElem?_cons_succ] at h1 h2
    rw [nodup_inj (List.nodup_cons.mp nd).2 h1 h2]
theorem putK_new {ks : List (Key × V)} {k : Key} {v : V} (h : k ∉ ks.map (·.1)) : putK ks k v = ks ++ [(k, v)] := by
  unfold putK
  rw [if_neg]
  rw [List.any_eq_true]
  rintro ⟨p, hp, e⟩
  exact h (List.mem_map.mpr ⟨p, hp, of_decide_eq_true e⟩)
theorem Paired.map1 {R : Key × V → Ent → Prop} (h : ∀ p e, R p e → p.1 = .inr e.name) : ∀ {xs : List (Key × V)} {ys : List Ent}, Paired R xs ys → xs.map (·.1) = (ys.map Ent.name).map Sum.inr
  | _, _, .nil => rfl
  | _, _, .cons q t => by simp [h _ _ q, Paired.map1 h t]
/-- a dict comprehension over a locked dict of entries -/
theorem dc_ents {kvs : List (Key × V)} {ws : List Ent} (hk : kvs.map (·.1) = ws.map (fun e => Sum.inr e.name)) (nd : (ws.map Ent.name).Nodup) (few : ws.length < 1000) {d D : Addr} {od : Obj} {H1 : Hp} (hl : H1 d = some (.frz od (.dK kvs))) (hD : H1 D = none)
    {g : TG} {tk tv : TE} {vs : List Nat} {σ : L2.St} {Qd : Hp → Prop} (Pz : Hp → V → Ent → Prop) (mono : ∀ H H' z e, Kp D H H' → (∃ acc, H D = some (.dK acc)) → Pz H z e → Pz H' z e)
    (turn : ∀ e ∈ ws, ∀ (H' : Hp) (R : V → VK), Same H1 H' → (∀ z H3, Same H' H3 → Pz H3 z e → R (.str e.name) z H3) → g (.str e.name) (wipe σ vs) H' fun σ2 H2 => wipe σ2 vs = wipe σ vs ∧ tk σ2 H2 fun y H4 => tv σ2 H4 (R y))
    (done : ∀ H' acc, Same H1 H' → H' D = some (.dK acc) → Paired (fun (p : Key × V) (e : Ent) => p.1 = .inr e.name ∧ Pz H' p.2 e) acc ws → Qd H') :
    ∃ W : Nat → Nat → Hp → Prop, (∃ m, W 0 m (upd H1 D (.dK []))) ∧ ∀ i m H, W i m H →
      ((Itk d od kvs).stop i H ∧ Qd H) ∨ ((Itk d od kvs).go i H ∧ ∃ Nx : Hp → Prop, (∀ H', Nx H' → ∃ m', m' < m ∧ W (i + 1) m' H') ∧ ∀ x H', (Itk d od kvs).yld i H x H' → g x (wipe σ vs) H' fun σ2 H2 => wipe σ2 vs = wipe σ vs ∧ tYes σ2 H2 fun b H3 =>
        if b = true then tk σ2 H3 fun y H4 => tv σ2 H4 fun z H5 => ∃ kvs k, y = kV k ∧ H5 D = some (.dK kvs) ∧ kvs.length < sizeLine ∧ Nx (upd H5 D (.dK (putK kvs k z))) else Nx H3) := by
  have hlen : kvs.length = ws.length := by simpa using congrArg List.length hk
  refine dc_it walk_keys (tt := tYes) (fun i H' => Same H1 H' ∧ ∃ acc, H' D = some (.dK acc) ∧ Paired (fun (p : Key × V) (e : Ent) => p.1 = .inr e.name ∧ Pz H' p.2 e) acc (ws.take i)) ⟨Same.new hD, [], upd_same, by rw [List.take_zero]; exact .nil⟩ (fun i H' _ z => z.1 _ _ hl) (fun i x H2 H' hi z y => ?_)
    (fun H' z => by
      obtain ⟨s, acc, e, p⟩ := z
      rw [hlen, List.take_length] at p
      exact done H' acc s e p)
  obtain ⟨rfl, k, v, hkv, rfl⟩ := y
  obtain ⟨s, acc, e, p⟩ := z
  have hi2 : i < ws.length := by omega
  have ei : ws[i]? = some ws[i] := List.getElem?_eq_getElem hi2
  have ek : k = .inr ws[i].name := by
    have h1 : (kvs.map (·.1))[i]? = some k := by rw [List.getElem?_map, hkv]; rfl
    rw [hk, List.getElem?_map, ei] at h1
    exact (Option.some.inj h1).symm
  subst ek
  have R := turn ws[i] (List.getElem_mem hi2) H' (fun y z H5 => ∃ kvs k, y = kV k ∧ H5 D = some (.dK kvs) ∧ kvs.length < sizeLine ∧ (Same H1 (upd H5 D (.dK (putK kvs k z))) ∧ ∃ acc, (upd H5 D (.dK (putK kvs k z))) D = some (.dK acc) ∧ Paired (fun (p : Key × V) (e : Ent) => p.1 = .inr e.name ∧ Pz (upd H5 D (.dK (putK kvs k z))) p.2 e) acc (ws.take (i + 1)))) s (fun z H3 k3 pz => ?_)
  · exact R
  · have la : acc.length = i := by rw [Paired.length p, List.length_take]; omega
    have fresh : (Sum.inr ws[i].name : Key) ∉ acc.map (·.1) := by
      rw [Paired.map1 (fun _ _ q => q.1) p]
      intro hm
      obtain ⟨nm, h1, h2⟩ := List.mem_map.mp hm
      cases h2
      rw [List.map_take] at h1
      obtain ⟨j, hj, ej⟩ := List.mem_iff_getElem.mp h1
      have lj : j < i := by
        rw [List.length_take] at hj
        omega
      rw [List.getElem_take] at ej
      have e1 : (ws.map Ent.name)[j]? = some ws[i].name := by
        rw [List.getElem?_eq_getElem (by rw [List.length_map]; omega), ej]
      have e2 : (ws.map Ent.name)[i]? = some ws[i].name := by rw [List.getElem?_map, ei]; rfl
      have := nodup_inj nd e1 e2
      omega
    refine ⟨acc, .inr ws[i].name, rfl, k3 _ _ e, by rw [la]; exact Nat.lt_of_lt_of_le (by omega : i < 1000) (by decide), Same.over (s.trans k3) hD, _, upd_same, ?_⟩
    rw [putK_new fresh, List.take_succ, ei]
    have st : ∀ z e, Pz H3 z e → Pz (upd H3 D (.dK (acc ++ [(Sum.inr ws[i].name, z)]))) z e := fun z e h => mono _ _ _ _ Kp.put ⟨acc, k3 _ _ ‹_›⟩ h
    have hd3 : H3 D = some (.dK acc) := k3 _ _ e
    refine Paired.snoc (Paired.imp2 (fun a b q => ⟨q.1, mono _ _ _ _ Kp.put ⟨acc, hd3⟩ (mono _ _ _ _ (Same.kp k3) ⟨acc, e⟩ q.2)⟩) p) ⟨rfl, mono _ _ _ _ Kp.put ⟨acc, hd3⟩ pz⟩
end Gx

/-! an error of the program raised; what the menu's methods promise -/
namespace Gx
open PySem PySem.Spec PyProof.Rows L2
section
variable {X : Cx} {x f : Str} {C : Addr} {p pos : Pos} {e : Expr} {t : TA}
theorem pmk_exV (Z' : ∃ fI fd, ExK X.prog X.w X.K X.mg X.base x C f fI fd) (hr : Room 2 X.A) (hg : Gl X x) (ha : PA X [e] t) (hdb : (x == ("__debug__" : Str)) = false := by decide) (he : starEach [e] X.env = (false, eval e X.env) :: starEach [] X.env := by rfl)
    (hpl : (backTo pos (starEach [] X.env)).any (·.1) = false := by rfl) : PMk X (.Call (.Name x p) [e] [] pos) (tMkO C (spExI C f) [] t) := by
  obtain ⟨fI, fd, Z⟩ := Z'
  exact pmk_oex Z.T Z.i Z.t Z.F hr Z.b .nil pass0 hg Z.g ha hdb he hpl
end
/-- no weather of the menu b -/
def BadX (K : PySem.W.Frag) (H : Hp) (b : Bs) (x : V) : Prop := NoStr K H x ∨ ∃ z, x = .str z ∧ z ∉ b.names
/-- the way out by BadWeather -/
def OutW (K : PySem.W.Frag) (H : Hp) (x : V) (E : XK) : Prop := ∀ d H', H d = none → Same H H' → H' d = some (.xd [("value", x)]) → E (.ref (He.ga K "BadWeather")) (some d) H'
/-- the heap behind a raised error, laid out -/
theorem raised {H : Hp} {a d C : Addr} {v : V} (na : H a = none) (nd : H d = none) (ne : d ≠ a) {E : XK} (h : ∀ H', Same H H' → H' d = some (.xd [("value", v)]) → E (.ref C) (some d) H') :
    E (.ref C) (some d) (upd (del (upd (upd (upd H a (exo a C none)) d (exd d [("value", v)])) a (exo a C (some d))) a) d (.xd [("value", v)])) := by
  refine h _ (fun b o e => ?_) upd_same
  have b1 : b ≠ d := ne_of_none e nd
  have b2 : b ≠ a := ne_of_none e na
  rw [upd_ne b1, del_ne b2, upd_ne b2, upd_ne b1, upd_ne b2]
  exact e
def spCheck (K : PySem.W.Frag) : Sp := fun vs H Q E => ∃ m b x, vs = [.ref m, x] ∧ IsM K H m b ∧ ((∃ z, x = .str z ∧ z ∈ b.names ∧ Q .non H) ∨ (BadX K H b x ∧ OutW K H x E))
def spWishes (K : PySem.W.Frag) : Sp := fun vs H Q E => ∃ m b x, vs = [.ref m, x] ∧ IsM K H m b ∧ b.names.Nodup ∧ ((∃ e ∈ b.ws, x = .str e.name ∧ ∀ p, H p = none → Q (.ref p) (upd H p (.lst (e.wishes.map V.str)))) ∨ (BadX K H b x ∧ OutW K H x E))
def spLater (K : PySem.W.Frag) : Sp := fun vs H Q E => ∃ m b x, vs = [.ref m, x] ∧ IsM K H m b ∧ b.names.Nodup ∧ ((∃ e ∈ b.ws, x = .str e.name ∧ ∀ p, H p = none → Q (.ref p) (upd H p (.lst (e.later.map V.str)))) ∨ (BadX K H b x ∧ OutW K H x E))
def spBack (K : PySem.W.Frag) : Sp := fun vs H Q E => ∃ m b x, vs = [.ref m, x] ∧ IsM K H m b ∧ b.names.Nodup ∧ ((∃ e ∈ b.ws, x = .str e.name ∧ Q (.str e.back) H) ∨ (BadX K H b x ∧ OutW K H x E))
theorem TupsAt.keys {K : PySem.W.Frag} {H : Hp} : ∀ {kvs : List (Key × V)} {ps : List (Str × List Str)}, TupsAt K H kvs ps → kvs.map (·.1) = (ps.map (·.1)).map Sum.inr
  | _, _, .nil => rfl
  | _, _, .cons h t => by simp [h.1, TupsAt.keys t]
theorem nodup_inr {xs : List Str} (h : xs.Nodup) : (xs.map (Sum.inr : Str → Key)).Nodup := List.Pairwise.map _ (fun a b n e => n (Sum.inr.inj e)) h
/-- what such a dict holds at a name -/
theorem TupsAt.get {K : PySem.W.Frag} {H : Hp} {kvs : List (Key × V)} {ws : List Ent} {f : Ent → List Str} (h : TupsAt K H kvs (ws.map fun e => (e.name, f e))) (nd : (ws.map Ent.name).Nodup) {e : Ent} (he : e ∈ ws) :
    ∃ a, valV kvs (.inr e.name) = some (.ref a) ∧ SqT K H a ((f e).map V.str) := by
  obtain ⟨i, hi, ei⟩ := List.mem_iff_getElem.mp he
  have hl : kvs.length = ws.length := by
    have := Paired.length h
    simpa using this
  have eki : kvs[i]? = some (kvs[i]'(by omega)) := List.getElem?_eq_getElem (by omega)
  obtain ⟨y, f1, f2, a, f3, f4⟩ := Paired.at2 h eki
  rw [List.getElem?_map, List.getElem?_eq_getElem hi, ei] at f1
  cases f1
  refine ⟨a, ?_, f4⟩
  have ndk : (kvs.map (·.1)).Nodup := by
    have e2 : (ws.map fun e => (e.name, f e)).map (·.1) = ws.map Ent.name := by rw [List.map_map]; rfl
    rw [h.keys, e2]
    exact nodup_inr nd
  rw [← f3]
  exact valV_at (i := i) ndk (by rw [eki, ← f2])
theorem back_get {ws : List Ent} (nd : (ws.map Ent.name).Nodup) {e : Ent} (he : e ∈ ws) : valV (ws.map fun e => ((Sum.inr e.name : Key), V.str e.back)) (.inr e.name) = some (.str e.back) := by
  obtain ⟨i, hi, ei⟩ := List.mem_iff_getElem.mp he
  refine valV_at (i := i) ?_ ?_
  · rw [List.map_map]
    have := nodup_inr nd
    rwa [List.map_map] at this
  · rw [List.getElem?_map, List.getElem?_eq_getElem hi, ei]
    rfl
end Gx

/-! equality of menus -/
namespace Gx
open PySem PySem.Spec PyProof.Rows L2
/-- what is asked of an own class by its name, its instances compared and looked at -/
def instB (K : PySem.W.Frag) (x : Str) : Bool :=
  decide (PySem.W.findIn K (.ref (He.ga K x)) "__class__" = some (some (.builtin "object.__class__"))) && (decide (PySem.W.specialIn K (.builtin "object.__class__") "__get__" = some (some (.builtin "getset_descriptor.__get__"))) && (decide (PySem.W.takesIn K (.builtin "object.__class__") = some true) &&
  (decide (PySem.W.mroIn K (He.ga K x) (.type "object") = some true) && (decide (PySem.W.kitOne K (.ref (He.ga K x)) (.ref (He.ga K x)) = some true) && (PySem.W.notFirst K (He.ga K x) (.ref (He.ga K x)) &&
  (decide (PySem.W.findIn K (.ref (He.ga K x)) "__ne__" = some (some (.builtin "object.__ne__"))) && decide (PySem.W.subIn K (.ref (He.ga K x)) (.type "object") = some true)))))))
structure InstB (K : PySem.W.Frag) (x : Str) : Prop where
  ha : PySem.W.findIn K (.ref (He.ga K x)) "__class__" = some (some (.builtin "object.__class__"))
  hn : PySem.W.specialIn K (.builtin "object.__class__") "__get__" = some (some (.builtin "getset_descriptor.__get__"))
  ht : PySem.W.takesIn K (.builtin "object.__class__") = some true
  hm : PySem.W.mroIn K (He.ga K x) (.type "object") = some true
  kit : PySem.W.kitOne K (.ref (He.ga K x)) (.ref (He.ga K x)) = some true
  first : PySem.W.notFirst K (He.ga K x) (.ref (He.ga K x)) = true
  ne : PySem.W.findIn K (.ref (He.ga K x)) "__ne__" = some (some (.builtin "object.__ne__"))
  obj : PySem.W.subIn K (.ref (He.ga K x)) (.type "object") = some true
theorem instB_ok {K : PySem.W.Frag} {x : Str} (h : instB K x = true) : InstB K x := by
  simp only [instB, Bool.and_eq_true, decide_eq_true_eq] at h
  obtain ⟨h1, h2, h3, h4, h5, h6, h7, h8⟩ := h
  exact ⟨h1, h2, h3, h4, h5, h6, h7, h8⟩
theorem InstB.ty {K : PySem.W.Frag} {x : Str} (B : InstB K x) (c : Cls K (He.ga K x)) {H : Hp} {a dx : Addr} {fs : List (Str × V)} (e : H a = some (.ins (He.ga K x) dx fs)) : TyX K H (.ref a) (.ref (He.ga K x)) := .base (.ins e c B.ha B.hn B.ht B.hm)
def okS (x : Str) : Prop := PyData.strOk x = true
theorem NM.ok {x : Str} (h : NM x) : okS x := by
  unfold okS PyData.strOk
  rw [Array.all_eq_true]
  intro i hi
  have := h.2.2 (x.cps[i]) (by simp)
  simp only [decide_eq_true_eq]
  omega
def dT (xs : List Str) : PyData := .tuple (xs.map .str)
theorem lay_str : ∀ {xs : List Str}, (∀ x ∈ xs, okS x) → PyData.canLayAll0 (xs.map .str) = true
  | [], _ => by simp [PyData.canLayAll0]
  | x :: xs, h => by
    simp only [List.map_cons, PyData.canLayAll0, PyData.canLay0, Bool.and_eq_true]
    exact ⟨h x List.mem_cons_self, lay_str fun y hy => h y (List.mem_cons_of_mem _ hy)⟩
theorem depth_str : ∀ xs : List Str, PyData.depthAll (xs.map .str) = 0
  | [] => by simp [PyData.depthAll]
  | x :: xs => by simp [PyData.depthAll, PyData.depth, depth_str xs]
theorem shape_t {xs : List Str} (h : ∀ x ∈ xs, okS x) : SeqAt.shaped (dT xs) = true := by
  unfold SeqAt.shaped dT
  rw [Bool.and_eq_true]
  refine ⟨by simp only [PyData.canLay0]; exact lay_str h, decide_eq_true ?_⟩
  simp only [PyData.depth, depth_str]
  omega
theorem shape_s {x : Str} (h : okS x) : SeqAt.shaped (.str x) = true := by
  unfold SeqAt.shaped
  rw [Bool.and_eq_true]
  refine ⟨by simp only [PyData.canLay0]; exact h, decide_eq_true ?_⟩
  simp only [PyData.depth]
  omega
theorem beq_str (x y : Str) : (x == y) = decide (x = y) := by
  by_cases h : x = y
  · subst h; simp
  · rw [decide_eq_false h]; exact beq_eq_false_iff_ne.mpr h
theorem eqv_strs : ∀ xs ys : List Str, PyData.eqvAll (xs.map .str) (ys.map .str) = decide (xs = ys)
  | [], [] => by simp [PyData.eqvAll]
  | [], _ :: _ => by simp [PyData.eqvAll]
  | _ :: _, [] => by simp [PyData.eqvAll]
  | x :: xs, y :: ys => by
    have e : PyData.eqvAll ((x :: xs).map .str) ((y :: ys).map .str) = ((x == y) && PyData.eqvAll (xs.map .str) (ys.map .str)) := by simp only [List.map_cons, PyData.eqvAll, PyData.eqv]
    rw [e, eqv_strs xs ys, beq_str]
    simp
theorem eqv_t (xs ys : List Str) : PyData.eqv (dT xs) (dT ys) = decide (xs = ys) := by
  unfold dT
  simp only [PyData.eqv]
  exact eqv_strs xs ys
theorem eqv_ts : ∀ xs ys : List (List Str), PyData.eqvAll (xs.map dT) (ys.map dT) = decide (xs = ys)
  | [], [] => by simp [PyData.eqvAll]
  | [], _ :: _ => by simp [PyData.eqvAll]
  | _ :: _, [] => by simp [PyData.eqvAll]
  | x :: xs, y :: ys => by
    have e : PyData.eqvAll ((x :: xs).map dT) ((y :: ys).map dT) = (PyData.eqv (dT x) (dT y) && PyData.eqvAll (xs.map dT) (ys.map dT)) := by simp only [List.map_cons, PyData.eqvAll]
    rw [e, eqv_ts xs ys, eqv_t]
    simp
section
variable {K : PySem.W.Frag} {H : Hp}
theorem dp_strs : ∀ xs : List Str, DpAll K H (xs.map V.str) (xs.map .str)
  | [] => .nil
  | x :: xs => .cons (.str x) (dp_strs xs)
theorem dp_t {a : Addr} {xs : List Str} (h : SqT K H a (xs.map V.str)) : Dp K H (.ref a) (dT xs) := .tup h (dp_strs xs)
theorem TupsAt.dp : ∀ {kvs : List (Key × V)} {ps : List (Str × List Str)}, TupsAt K H kvs ps → DpAll K H (kvs.map (·.2)) (ps.map fun p => dT p.2)
  | _, _, .nil => .nil
  | (_, _) :: _, _, .cons ⟨_, a, e, h⟩ t => by
    simp only at e
    subst e
    exact .cons (dp_t h) (TupsAt.dp t)
end
/-- the menus' own equality, part by part -/
def eqB (b c : Bs) : Bool := decide (b.things = c.things) && (decide (b.names = c.names) && (decide (b.ws.map Ent.wishes = c.ws.map Ent.wishes) && (decide (b.ws.map Ent.back = c.ws.map Ent.back) && decide (b.ws.map Ent.later = c.ws.map Ent.later))))
theorem ents_eq : ∀ {ws vs : List Ent}, ws.map Ent.name = vs.map Ent.name → ws.map Ent.wishes = vs.map Ent.wishes → ws.map Ent.back = vs.map Ent.back → ws.map Ent.later = vs.map Ent.later → ws = vs
  | [], [], _, _, _, _ => rfl
  | [], _ :: _, h, _, _, _ => by simp at h
  | _ :: _, [], h, _, _, _ => by simp at h
  | ⟨n, w, k, l⟩ :: ws, ⟨n2, w2, k2, l2⟩ :: vs, h1, h2, h3, h4 => by
    simp only [List.map_cons, List.cons.injEq] at h1 h2 h3 h4
    rw [ents_eq h1.2 h2.2 h3.2 h4.2, h1.1, h2.1, h3.1, h4.1]
theorem eqB_eq (b c : Bs) : eqB b c = decide (b = c) := by
  rw [Bool.eq_iff_iff]
  unfold eqB Bs.names
  simp only [Bool.and_eq_true, decide_eq_true_eq]
  constructor
  · rintro ⟨h1, h2, h3, h4, h5⟩
    obtain ⟨t, ws⟩ := b
    obtain ⟨t2, ws2⟩ := c
    simp only at h1 h2 h3 h4 h5
    rw [h1, ents_eq h2 h3 h4 h5]
  · rintro rfl
    exact ⟨rfl, rfl, rfl, rfl, rfl⟩
theorem WF.okT {b : Bs} (wf : WF b) : ∀ x ∈ b.things, okS x := fun x h => (wf.tn x h).ok
theorem WF.okN {b : Bs} (wf : WF b) : ∀ x ∈ b.names, okS x := fun x h => (wf.wn x h).ok
theorem WF.okW {b : Bs} (wf : WF b) {e : Ent} (he : e ∈ b.ws) : (∀ x ∈ e.wishes, okS x) ∧ okS e.back ∧ ∀ x ∈ e.later, okS x := by
  have h := wf.we e he
  refine ⟨fun x hx => wf.okT x (h.w x hx), ?_, fun x hx => wf.okN x (h.l x hx)⟩
  rcases h.b with q | q <;> rw [q] <;> (unfold okS; decide +kernel)
/-- == at two menus, or at a menu and something else -/
def spEqM (K : PySem.W.Frag) : Sp := fun vs H Q _ => ∃ m y b, vs = [.ref m, y] ∧ IsM K H m b ∧ ((∃ m2 c, y = .ref m2 ∧ IsM K H m2 c ∧ WF b ∧ WF c ∧ Q (.bl (decide (b = c))) H) ∨ ((∃ T, TyX K H y (.type T) ∧ T ∈ ["NoneType", "bool", "int", "str", "list", "tuple", "dict"]) ∧ Q (.bl false) H))
end Gx

namespace K02
open PySem PySem.Spec PyProof.Rows L2 Gx
def top (i : Nat) : Stmt := PySem.Challenge.pw_dugdays_k02_menus_compared.main.body.getD i (.Pass ⟨0, 0, 0, 0⟩)
abbrev s_is_name : Stmt := top 11
abbrev s_are_different : Stmt := top 12
abbrev s_are_names : Stmt := top 13
abbrev s_are_things : Stmt := top 14
abbrev s_is_row_of : Stmt := top 15
abbrev s_is_weather_entry : Stmt := top 16
abbrev s_are_weathers : Stmt := top 17
abbrev s_law_source : Stmt := top 20
abbrev s_law_draw : Stmt := top 21
abbrev s_law_pick : Stmt := top 22
abbrev s_law_mixed : Stmt := top 23
abbrev s_law_word : Stmt := top 24
abbrev s_law_names : Stmt := top 25
abbrev s_law_some : Stmt := top 26
abbrev s_law_base : Stmt := top 27
abbrev s_law_made : Stmt := top 28
abbrev s_law_stranger : Stmt := top 29
abbrev s_law_tuples : Stmt := top 30
abbrev s_law_near : Stmt := top 31
abbrev s_law_same : Stmt := top 32
abbrev s_law_refused : Stmt := top 33
abbrev s_law_strangers_right : Stmt := top 34
abbrev s_law : Stmt := top 35
abbrev s_BadWeather_init : Stmt := inClass (top 4) 0
abbrev s_Menu_init : Stmt := inClass (top 18) 0
abbrev s_Menu_wishes : Stmt := inClass (top 18) 3
abbrev s_Menu_back : Stmt := inClass (top 18) 4
abbrev s_Menu_later : Stmt := inClass (top 18) 5
abbrev s_Menu_eq : Stmt := inClass (top 18) 6
abbrev s_Menu_check_weather : Stmt := inClass (top 18) 7
theorem sc_is_name : FnScope ["value", "letter"] ["value"] (defScope s_is_name) := ⟨rfl, rfl, rfl, by decide +kernel, rfl, by decide +kernel, by decide +kernel⟩
theorem sc_are_different : FnScope ["names"] ["names"] (defScope s_are_different) := ⟨rfl, rfl, rfl, by decide +kernel, rfl, by decide +kernel, by decide +kernel⟩
theorem sc_are_names : FnScope ["row", "entry"] ["row"] (defScope s_are_names) := ⟨rfl, rfl, rfl, by decide +kernel, rfl, by decide +kernel, by decide +kernel⟩
theorem sc_are_things : FnScope ["value"] ["value"] (defScope s_are_things) := ⟨rfl, rfl, rfl, by decide +kernel, rfl, by decide +kernel, by decide +kernel⟩
theorem sc_is_row_of : FnScope ["value", "names", "entry"] ["value", "names"] (defScope s_is_row_of) := ⟨rfl, rfl, rfl, by decide +kernel, rfl, by decide +kernel, by decide +kernel⟩
theorem sc_is_weather_entry : FnScope ["value", "things", "weathers", "wishes", "back", "later"] ["value", "things", "weathers"] (defScope s_is_weather_entry) := ⟨rfl, rfl, rfl, by decide +kernel, rfl, by decide +kernel, by decide +kernel⟩
theorem sc_are_weathers : FnScope ["value", "things", "names", "name"] ["value", "things"] (defScope s_are_weathers) := ⟨rfl, rfl, rfl, by decide +kernel, rfl, by decide +kernel, by decide +kernel⟩
theorem sc_law_source : FnScope ["script", "start", "mixed", "cell", "own"] ["script", "start"] (defScope s_law_source) := ⟨rfl, rfl, rfl, by decide +kernel, rfl, by decide +kernel, by decide +kernel⟩
theorem sc_law_draw : FnScope ["source", "span", "found"] ["source", "span"] (defScope s_law_draw) := ⟨rfl, rfl, rfl, by decide +kernel, rfl, by decide +kernel, by decide +kernel⟩
theorem sc_law_pick : FnScope ["source", "some"] ["source", "some"] (defScope s_law_pick) := ⟨rfl, rfl, rfl, by decide +kernel, rfl, by decide +kernel, by decide +kernel⟩
theorem sc_law_mixed : FnScope ["source", "some", "lot", "found"] ["source", "some"] (defScope s_law_mixed) := ⟨rfl, rfl, rfl, by decide +kernel, rfl, by decide +kernel, by decide +kernel⟩
theorem sc_law_word : FnScope ["source", "word", "turn"] ["source"] (defScope s_law_word) := ⟨rfl, rfl, rfl, by decide +kernel, rfl, by decide +kernel, by decide +kernel⟩
theorem sc_law_names : FnScope ["source", "many", "some", "word"] ["source", "many"] (defScope s_law_names) := ⟨rfl, rfl, rfl, by decide +kernel, rfl, by decide +kernel, by decide +kernel⟩
theorem sc_law_some : FnScope ["source", "names", "least"] ["source", "names", "least"] (defScope s_law_some) := ⟨rfl, rfl, rfl, by decide +kernel, rfl, by decide +kernel, by decide +kernel⟩
theorem sc_law_base : FnScope ["source", "most", "things", "name", "names", "weathers", "back"] ["source", "most"] (defScope s_law_base) := ⟨rfl, rfl, rfl, by decide +kernel, rfl, by decide +kernel, by decide +kernel⟩
theorem sc_law_made : FnScope ["base", "menu", "name", "things", "weathers", "wishes", "back", "later"] ["base"] (defScope s_law_made) := ⟨rfl, rfl, rfl, by decide +kernel, rfl, by decide +kernel, by decide +kernel⟩
theorem sc_law_stranger : FnScope ["base", "used", "some", "entry", "name"] ["base"] (defScope s_law_stranger) := ⟨rfl, rfl, rfl, by decide +kernel, rfl, by decide +kernel, by decide +kernel⟩
theorem sc_law_tuples : FnScope ["base", "name", "wishes", "back", "later"] ["base"] (defScope s_law_tuples) := ⟨rfl, rfl, rfl, by decide +kernel, rfl, by decide +kernel, by decide +kernel⟩
theorem sc_law_near : FnScope ["source", "base", "at", "other", "names", "some", "found", "things", "weathers", "name", "wishes", "back", "later", "entry"] ["source", "base"] (defScope s_law_near) := ⟨rfl, rfl, rfl, by decide +kernel, rfl, by decide +kernel, by decide +kernel⟩
theorem sc_law_same : FnScope ["one", "two"] ["one", "two"] (defScope s_law_same) := ⟨rfl, rfl, rfl, by decide +kernel, rfl, by decide +kernel, by decide +kernel⟩
theorem sc_law_refused : FnScope ["way", "menu", "thing", "caught", "error"] ["way", "menu", "thing"] (defScope s_law_refused) := ⟨rfl, rfl, rfl, by decide +kernel, rfl, by decide +kernel, by decide +kernel⟩
theorem sc_law_strangers_right : FnScope ["base", "menu", "names", "some", "thing", "way", "entry", "caught"] ["base", "menu"] (defScope s_law_strangers_right) := ⟨rfl, rfl, rfl, by decide +kernel, rfl, by decide +kernel, by decide +kernel⟩
theorem sc_law : FnScope ["script", "start", "source", "turn", "base", "menu", "same", "other", "name", "wishes", "back", "later", "thing"] ["script"] (defScope s_law) := ⟨rfl, rfl, rfl, by decide +kernel, rfl, by decide +kernel, by decide +kernel⟩
theorem sc_BadWeather_init : FnScope ["self", "value"] ["self", "value"] (defScope s_BadWeather_init) := ⟨rfl, rfl, rfl, by decide +kernel, rfl, by decide +kernel, by decide +kernel⟩
theorem sc_Menu_init : FnScope ["self", "things", "weathers", "name"] ["self", "things", "weathers"] (defScope s_Menu_init) := ⟨rfl, rfl, rfl, by decide +kernel, rfl, by decide +kernel, by decide +kernel⟩
theorem sc_Menu_wishes : FnScope ["self", "weather"] ["self", "weather"] (defScope s_Menu_wishes) := ⟨rfl, rfl, rfl, by decide +kernel, rfl, by decide +kernel, by decide +kernel⟩
theorem sc_Menu_back : FnScope ["self", "weather"] ["self", "weather"] (defScope s_Menu_back) := ⟨rfl, rfl, rfl, by decide +kernel, rfl, by decide +kernel, by decide +kernel⟩
theorem sc_Menu_later : FnScope ["self", "weather"] ["self", "weather"] (defScope s_Menu_later) := ⟨rfl, rfl, rfl, by decide +kernel, rfl, by decide +kernel, by decide +kernel⟩
theorem sc_Menu_eq : FnScope ["self", "other"] ["self", "other"] (defScope s_Menu_eq) := ⟨rfl, rfl, rfl, by decide +kernel, rfl, by decide +kernel, by decide +kernel⟩
theorem sc_Menu_check_weather : FnScope ["self", "value"] ["self", "value"] (defScope s_Menu_check_weather) := ⟨rfl, rfl, rfl, by decide +kernel, rfl, by decide +kernel, by decide +kernel⟩
def fn : List He.DefD := [⟨("is_name", none), "is_name", "is_name", defArgs s_is_name, defBody s_is_name, defScope s_is_name, [], []⟩,
  ⟨("are_different", none), "are_different", "are_different", defArgs s_are_different, defBody s_are_different, defScope s_are_different, [], []⟩,
  ⟨("are_names", none), "are_names", "are_names", defArgs s_are_names, defBody s_are_names, defScope s_are_names, [], []⟩,
  ⟨("are_things", none), "are_things", "are_things", defArgs s_are_things, defBody s_are_things, defScope s_are_things, [], []⟩,
  ⟨("is_row_of", none), "is_row_of", "is_row_of", defArgs s_is_row_of, defBody s_is_row_of, defScope s_is_row_of, [], []⟩,
  ⟨("is_weather_entry", none), "is_weather_entry", "is_weather_entry", defArgs s_is_weather_entry, defBody s_is_weather_entry, defScope s_is_weather_entry, [], []⟩,
  ⟨("are_weathers", none), "are_weathers", "are_weathers", defArgs s_are_weathers, defBody s_are_weathers, defScope s_are_weathers, [], []⟩,
  ⟨("_law_source", none), "_law_source", "_law_source", defArgs s_law_source, defBody s_law_source, defScope s_law_source, [], []⟩,
  ⟨("_law_draw", none), "_law_draw", "_law_draw", defArgs s_law_draw, defBody s_law_draw, defScope s_law_draw, [], []⟩,
  ⟨("_law_pick", none), "_law_pick", "_law_pick", defArgs s_law_pick, defBody s_law_pick, defScope s_law_pick, [], []⟩,
  ⟨("_law_mixed", none), "_law_mixed", "_law_mixed", defArgs s_law_mixed, defBody s_law_mixed, defScope s_law_mixed, [], []⟩,
  ⟨("_law_word", none), "_law_word", "_law_word", defArgs s_law_word, defBody s_law_word, defScope s_law_word, [], []⟩,
  ⟨("_law_names", none), "_law_names", "_law_names", defArgs s_law_names, defBody s_law_names, defScope s_law_names, [], []⟩,
  ⟨("_law_some", none), "_law_some", "_law_some", defArgs s_law_some, defBody s_law_some, defScope s_law_some, [], []⟩,
  ⟨("_law_base", none), "_law_base", "_law_base", defArgs s_law_base, defBody s_law_base, defScope s_law_base, [], []⟩,
  ⟨("_law_made", none), "_law_made", "_law_made", defArgs s_law_made, defBody s_law_made, defScope s_law_made, [], []⟩,
  ⟨("_law_stranger", none), "_law_stranger", "_law_stranger", defArgs s_law_stranger, defBody s_law_stranger, defScope s_law_stranger, [], []⟩,
  ⟨("_law_tuples", none), "_law_tuples", "_law_tuples", defArgs s_law_tuples, defBody s_law_tuples, defScope s_law_tuples, [], []⟩,
  ⟨("_law_near", none), "_law_near", "_law_near", defArgs s_law_near, defBody s_law_near, defScope s_law_near, [], []⟩,
  ⟨("_law_same", none), "_law_same", "_law_same", defArgs s_law_same, defBody s_law_same, defScope s_law_same, [], []⟩,
  ⟨("_law_refused", none), "_law_refused", "_law_refused", defArgs s_law_refused, defBody s_law_refused, defScope s_law_refused, [], []⟩,
  ⟨("_law_strangers_right", none), "_law_strangers_right", "_law_strangers_right", defArgs s_law_strangers_right, defBody s_law_strangers_right, defScope s_law_strangers_right, [], []⟩,
  ⟨("law", none), "law", "law", defArgs s_law, defBody s_law, defScope s_law, [], []⟩,
  ⟨("BadWeather", some "__init__"), "__init__", "BadWeather.__init__", defArgs s_BadWeather_init, defBody s_BadWeather_init, defScope s_BadWeather_init, [], []⟩,
  ⟨("Menu", some "__init__"), "__init__", "Menu.__init__", defArgs s_Menu_init, defBody s_Menu_init, defScope s_Menu_init, [], []⟩,
  ⟨("Menu", some "wishes"), "wishes", "Menu.wishes", defArgs s_Menu_wishes, defBody s_Menu_wishes, defScope s_Menu_wishes, [], []⟩,
  ⟨("Menu", some "back"), "back", "Menu.back", defArgs s_Menu_back, defBody s_Menu_back, defScope s_Menu_back, [], []⟩,
  ⟨("Menu", some "later"), "later", "Menu.later", defArgs s_Menu_later, defBody s_Menu_later, defScope s_Menu_later, [], []⟩,
  ⟨("Menu", some "__eq__"), "__eq__", "Menu.__eq__", defArgs s_Menu_eq, defBody s_Menu_eq, defScope s_Menu_eq, [], []⟩,
  ⟨("Menu", some "_check_weather"), "_check_weather", "Menu._check_weather", defArgs s_Menu_check_weather, defBody s_Menu_check_weather, defScope s_Menu_check_weather, [], []⟩]
def fa : List He.Fa := [.glo "is_name", .glo "are_different", .glo "are_names", .glo "are_things", .glo "is_row_of", .glo "is_weather_entry", .glo "are_weathers", .glo "_law_source", .glo "_law_draw", .glo "_law_pick", .glo "_law_mixed", .glo "_law_word", .glo "_law_names", .glo "_law_some", .glo "_law_base", .glo "_law_made", .glo "_law_stranger", .glo "_law_tuples", .glo "_law_near", .glo "_law_same", .glo "_law_refused", .glo "_law_strangers_right", .glo "law", .glo "BadWeather", .glo "Menu", .glo "WAYS_BACK", .free "len", .free "int", .free "isinstance", .free "range", .free "max", .free "min", .free "repr", .free "list", .free "dict", .free "tuple", .free "set", .free "all", .free "str", .int "MOST_LETTERS" 8, .int "MOST_THINGS" 5, .int "MOST_WEATHERS" 4, .str "LETTERS" "abcdefghijklmnopqrstuvwxyz", .cls "Menu", .noat "Menu" "_things", .noat "Menu" "_weathers", .noat "Menu" "_wishes", .noat "Menu" "_back", .noat "Menu" "_later", .meth "Menu" "wishes", .meth "Menu" "back", .meth "Menu" "later", .meth "Menu" "_check_weather", .meth "Menu" "__eq__", .mkr "Menu"]
def ex : PySem.W.Frag → Bool := fun K => exB K "BadWeather" "value" && (decide (PySem.W.exmOne K (.ref (He.ga K "BadWeather")) (.ref (He.ga K "BadWeather")) = some true) && (tupB K (He.ga K "WAYS_BACK") ["top", "place"] && ((["NoneType", "bool", "int", "str", "list", "tuple", "dict"]).all (fun T => decide (PySem.W.kitOne K (.type T) (.ref (He.ga K "Menu")) = some false) && PySem.W.notFirst K (He.ga K "Menu") (.type T)) &&
  instB K "Menu")))
structure Facts (K : PySem.W.Frag) (mg : Str → Option Value) : Prop where
  c : SaysY fa fn ex K
  h : ∃ h : Heap, K.In h ∧ h.Ns mainGlobals mg
section
variable {K : PySem.W.Frag} {mg : Str → Option Value}
theorem Facts.sys (F : Facts K mg) : SysOk K := F.c.m
theorem g_is_name (F : Facts K mg) : mg "is_name" = some (.ref (He.ga K "is_name")) := F.h.elim fun _ h => He.glo_ok h.1 h.2 (F.c.d.fact 0 rfl)
theorem g_are_different (F : Facts K mg) : mg "are_different" = some (.ref (He.ga K "are_different")) := F.h.elim fun _ h => He.glo_ok h.1 h.2 (F.c.d.fact 1 rfl)
theorem g_are_names (F : Facts K mg) : mg "are_names" = some (.ref (He.ga K "are_names")) := F.h.elim fun _ h => He.glo_ok h.1 h.2 (F.c.d.fact 2 rfl)
theorem g_are_things (F : Facts K mg) : mg "are_things" = some (.ref (He.ga K "are_things")) := F.h.elim fun _ h => He.glo_ok h.1 h.2 (F.c.d.fact 3 rfl)
theorem g_is_row_of (F : Facts K mg) : mg "is_row_of" = some (.ref (He.ga K "is_row_of")) := F.h.elim fun _ h => He.glo_ok h.1 h.2 (F.c.d.fact 4 rfl)
theorem g_is_weather_entry (F : Facts K mg) : mg "is_weather_entry" = some (.ref (He.ga K "is_weather_entry")) := F.h.elim fun _ h => He.glo_ok h.1 h.2 (F.c.d.fact 5 rfl)
theorem g_are_weathers (F : Facts K mg) : mg "are_weathers" = some (.ref (He.ga K "are_weathers")) := F.h.elim fun _ h => He.glo_ok h.1 h.2 (F.c.d.fact 6 rfl)
theorem g__law_source (F : Facts K mg) : mg "_law_source" = some (.ref (He.ga K "_law_source")) := F.h.elim fun _ h => He.glo_ok h.1 h.2 (F.c.d.fact 7 rfl)
theorem g__law_draw (F : Facts K mg) : mg "_law_draw" = some (.ref (He.ga K "_law_draw")) := F.h.elim fun _ h => He.glo_ok h.1 h.2 (F.c.d.fact 8 rfl)
theorem g__law_pick (F : Facts K mg) : mg "_law_pick" = some (.ref (He.ga K "_law_pick")) := F.h.elim fun _ h => He.glo_ok h.1 h.2 (F.c.d.fact 9 rfl)
theorem g__law_mixed (F : Facts K mg) : mg "_law_mixed" = some (.ref (He.ga K "_law_mixed")) := F.h.elim fun _ h => He.glo_ok h.1 h.2 (F.c.d.fact 10 rfl)
theorem g__law_word (F : Facts K mg) : mg "_law_word" = some (.ref (He.ga K "_law_word")) := F.h.elim fun _ h => He.glo_ok h.1 h.2 (F.c.d.fact 11 rfl)
theorem g__law_names (F : Facts K mg) : mg "_law_names" = some (.ref (He.ga K "_law_names")) := F.h.elim fun _ h => He.glo_ok h.1 h.2 (F.c.d.fact 12 rfl)
theorem g__law_some (F : Facts K mg) : mg "_law_some" = some (.ref (He.ga K "_law_some")) := F.h.elim fun _ h => He.glo_ok h.1 h.2 (F.c.d.fact 13 rfl)
theorem g__law_base (F : Facts K mg) : mg "_law_base" = some (.ref (He.ga K "_law_base")) := F.h.elim fun _ h => He.glo_ok h.1 h.2 (F.c.d.fact 14 rfl)
theorem g__law_made (F : Facts K mg) : mg "_law_made" = some (.ref (He.ga K "_law_made")) := F.h.elim fun _ h => He.glo_ok h.1 h.2 (F.c.d.fact 15 rfl)
theorem g__law_stranger (F : Facts K mg) : mg "_law_stranger" = some (.ref (He.ga K "_law_stranger")) := F.h.elim fun _ h => He.glo_ok h.1 h.2 (F.c.d.fact 16 rfl)
theorem g__law_tuples (F : Facts K mg) : mg "_law_tuples" = some (.ref (He.ga K "_law_tuples")) := F.h.elim fun _ h => He.glo_ok h.1 h.2 (F.c.d.fact 17 rfl)
theorem g__law_near (F : Facts K mg) : mg "_law_near" = some (.ref (He.ga K "_law_near")) := F.h.elim fun _ h => He.glo_ok h.1 h.2 (F.c.d.fact 18 rfl)
theorem g__law_same (F : Facts K mg) : mg "_law_same" = some (.ref (He.ga K "_law_same")) := F.h.elim fun _ h => He.glo_ok h.1 h.2 (F.c.d.fact 19 rfl)
theorem g__law_refused (F : Facts K mg) : mg "_law_refused" = some (.ref (He.ga K "_law_refused")) := F.h.elim fun _ h => He.glo_ok h.1 h.2 (F.c.d.fact 20 rfl)
theorem g__law_strangers_right (F : Facts K mg) : mg "_law_strangers_right" = some (.ref (He.ga K "_law_strangers_right")) := F.h.elim fun _ h => He.glo_ok h.1 h.2 (F.c.d.fact 21 rfl)
theorem g_law (F : Facts K mg) : mg "law" = some (.ref (He.ga K "law")) := F.h.elim fun _ h => He.glo_ok h.1 h.2 (F.c.d.fact 22 rfl)
theorem g_BadWeather (F : Facts K mg) : mg "BadWeather" = some (.ref (He.ga K "BadWeather")) := F.h.elim fun _ h => He.glo_ok h.1 h.2 (F.c.d.fact 23 rfl)
theorem g_Menu (F : Facts K mg) : mg "Menu" = some (.ref (He.ga K "Menu")) := F.h.elim fun _ h => He.glo_ok h.1 h.2 (F.c.d.fact 24 rfl)
theorem g_WAYS_BACK (F : Facts K mg) : mg "WAYS_BACK" = some (.ref (He.ga K "WAYS_BACK")) := F.h.elim fun _ h => He.glo_ok h.1 h.2 (F.c.d.fact 25 rfl)
theorem z_len (F : Facts K mg) : mg "len" = none := F.h.elim fun _ h => He.free_ok h.1 h.2 (F.c.d.fact 26 rfl)
theorem z_int (F : Facts K mg) : mg "int" = none := F.h.elim fun _ h => He.free_ok h.1 h.2 (F.c.d.fact 27 rfl)
theorem z_isinstance (F : Facts K mg) : mg "isinstance" = none := F.h.elim fun _ h => He.free_ok h.1 h.2 (F.c.d.fact 28 rfl)
theorem z_range (F : Facts K mg) : mg "range" = none := F.h.elim fun _ h => He.free_ok h.1 h.2 (F.c.d.fact 29 rfl)
theorem z_max (F : Facts K mg) : mg "max" = none := F.h.elim fun _ h => He.free_ok h.1 h.2 (F.c.d.fact 30 rfl)
theorem z_min (F : Facts K mg) : mg "min" = none := F.h.elim fun _ h => He.free_ok h.1 h.2 (F.c.d.fact 31 rfl)
theorem z_repr (F : Facts K mg) : mg "repr" = none := F.h.elim fun _ h => He.free_ok h.1 h.2 (F.c.d.fact 32 rfl)
theorem z_list (F : Facts K mg) : mg "list" = none := F.h.elim fun _ h => He.free_ok h.1 h.2 (F.c.d.fact 33 rfl)
theorem z_dict (F : Facts K mg) : mg "dict" = none := F.h.elim fun _ h => He.free_ok h.1 h.2 (F.c.d.fact 34 rfl)
theorem z_tuple (F : Facts K mg) : mg "tuple" = none := F.h.elim fun _ h => He.free_ok h.1 h.2 (F.c.d.fact 35 rfl)
theorem z_set (F : Facts K mg) : mg "set" = none := F.h.elim fun _ h => He.free_ok h.1 h.2 (F.c.d.fact 36 rfl)
theorem z_all (F : Facts K mg) : mg "all" = none := F.h.elim fun _ h => He.free_ok h.1 h.2 (F.c.d.fact 37 rfl)
theorem z_str (F : Facts K mg) : mg "str" = none := F.h.elim fun _ h => He.free_ok h.1 h.2 (F.c.d.fact 38 rfl)
theorem gi_MOST_LETTERS (F : Facts K mg) : ∃ t, mg "MOST_LETTERS" = some (.int 8 t) := F.h.elim fun _ h => He.int_ok h.1 h.2 (F.c.d.fact 39 rfl)
theorem gi_MOST_THINGS (F : Facts K mg) : ∃ t, mg "MOST_THINGS" = some (.int 5 t) := F.h.elim fun _ h => He.int_ok h.1 h.2 (F.c.d.fact 40 rfl)
theorem gi_MOST_WEATHERS (F : Facts K mg) : ∃ t, mg "MOST_WEATHERS" = some (.int 4 t) := F.h.elim fun _ h => He.int_ok h.1 h.2 (F.c.d.fact 41 rfl)
theorem gi_LETTERS (F : Facts K mg) : ∃ t, mg "LETTERS" = some (.str "abcdefghijklmnopqrstuvwxyz" t) := F.h.elim fun _ h => He.str_ok h.1 h.2 (F.c.d.fact 42 rfl)
theorem cls_Menu (F : Facts K mg) : Cls K (He.ga K "Menu") := He.cls_ok (F.c.d.fact 43 rfl)
theorem no_Menu_things (F : Facts K mg) : NoAttr K (He.ga K "Menu") "_things" := He.noat_ok (F.c.d.fact 44 rfl)
theorem no_Menu_weathers (F : Facts K mg) : NoAttr K (He.ga K "Menu") "_weathers" := He.noat_ok (F.c.d.fact 45 rfl)
theorem no_Menu_wishes (F : Facts K mg) : NoAttr K (He.ga K "Menu") "_wishes" := He.noat_ok (F.c.d.fact 46 rfl)
theorem no_Menu_back (F : Facts K mg) : NoAttr K (He.ga K "Menu") "_back" := He.noat_ok (F.c.d.fact 47 rfl)
theorem no_Menu_later (F : Facts K mg) : NoAttr K (He.ga K "Menu") "_later" := He.noat_ok (F.c.d.fact 48 rfl)
theorem me_Menu_wishes (F : Facts K mg) : Meth K (He.ga K "Menu") "wishes" (He.ma K (He.ga K "Menu") "wishes") := He.meth_ok (F.c.d.fact 49 rfl)
theorem me_Menu_back (F : Facts K mg) : Meth K (He.ga K "Menu") "back" (He.ma K (He.ga K "Menu") "back") := He.meth_ok (F.c.d.fact 50 rfl)
theorem me_Menu_later (F : Facts K mg) : Meth K (He.ga K "Menu") "later" (He.ma K (He.ga K "Menu") "later") := He.meth_ok (F.c.d.fact 51 rfl)
theorem me_Menu_check_weather (F : Facts K mg) : Meth K (He.ga K "Menu") "_check_weather" (He.ma K (He.ga K "Menu") "_check_weather") := He.meth_ok (F.c.d.fact 52 rfl)
theorem me_Menu_eq (F : Facts K mg) : Meth K (He.ga K "Menu") "__eq__" (He.ma K (He.ga K "Menu") "__eq__") := He.meth_ok (F.c.d.fact 53 rfl)
theorem mkr_Menu (F : Facts K mg) : Mk K (He.ga K "Menu") (He.ma K (He.ga K "Menu") "__init__") := He.mkr_ok (F.c.d.fact 54 rfl)
theorem fun_is_name (F : Facts K mg) : ∃ fd, FunD K "is_name" "is_name" (defArgs s_is_name) (defBody s_is_name) (defScope s_is_name) [] [] (He.ga K "is_name") fd := F.c.d.def_ 0 rfl
theorem fun_are_different (F : Facts K mg) : ∃ fd, FunD K "are_different" "are_different" (defArgs s_are_different) (defBody s_are_different) (defScope s_are_different) [] [] (He.ga K "are_different") fd := F.c.d.def_ 1 rfl
theorem fun_are_names (F : Facts K mg) : ∃ fd, FunD K "are_names" "are_names" (defArgs s_are_names) (defBody s_are_names) (defScope s_are_names) [] [] (He.ga K "are_names") fd := F.c.d.def_ 2 rfl
theorem fun_are_things (F : Facts K mg) : ∃ fd, FunD K "are_things" "are_things" (defArgs s_are_things) (defBody s_are_things) (defScope s_are_things) [] [] (He.ga K "are_things") fd := F.c.d.def_ 3 rfl
theorem fun_is_row_of (F : Facts K mg) : ∃ fd, FunD K "is_row_of" "is_row_of" (defArgs s_is_row_of) (defBody s_is_row_of) (defScope s_is_row_of) [] [] (He.ga K "is_row_of") fd := F.c.d.def_ 4 rfl
theorem fun_is_weather_entry (F : Facts K mg) : ∃ fd, FunD K "is_weather_entry" "is_weather_entry" (defArgs s_is_weather_entry) (defBody s_is_weather_entry) (defScope s_is_weather_entry) [] [] (He.ga K "is_weather_entry") fd := F.c.d.def_ 5 rfl
theorem fun_are_weathers (F : Facts K mg) : ∃ fd, FunD K "are_weathers" "are_weathers" (defArgs s_are_weathers) (defBody s_are_weathers) (defScope s_are_weathers) [] [] (He.ga K "are_weathers") fd := F.c.d.def_ 6 rfl
theorem fun_law_source (F : Facts K mg) : ∃ fd, FunD K "_law_source" "_law_source" (defArgs s_law_source) (defBody s_law_source) (defScope s_law_source) [] [] (He.ga K "_law_source") fd := F.c.d.def_ 7 rfl
theorem fun_law_draw (F : Facts K mg) : ∃ fd, FunD K "_law_draw" "_law_draw" (defArgs s_law_draw) (defBody s_law_draw) (defScope s_law_draw) [] [] (He.ga K "_law_draw") fd := F.c.d.def_ 8 rfl
theorem fun_law_pick (F : Facts K mg) : ∃ fd, FunD K "_law_pick" "_law_pick" (defArgs s_law_pick) (defBody s_law_pick) (defScope s_law_pick) [] [] (He.ga K "_law_pick") fd := F.c.d.def_ 9 rfl
theorem fun_law_mixed (F : Facts K mg) : ∃ fd, FunD K "_law_mixed" "_law_mixed" (defArgs s_law_mixed) (defBody s_law_mixed) (defScope s_law_mixed) [] [] (He.ga K "_law_mixed") fd := F.c.d.def_ 10 rfl
theorem fun_law_word (F : Facts K mg) : ∃ fd, FunD K "_law_word" "_law_word" (defArgs s_law_word) (defBody s_law_word) (defScope s_law_word) [] [] (He.ga K "_law_word") fd := F.c.d.def_ 11 rfl
theorem fun_law_names (F : Facts K mg) : ∃ fd, FunD K "_law_names" "_law_names" (defArgs s_law_names) (defBody s_law_names) (defScope s_law_names) [] [] (He.ga K "_law_names") fd := F.c.d.def_ 12 rfl
theorem fun_law_some (F : Facts K mg) : ∃ fd, FunD K "_law_some" "_law_some" (defArgs s_law_some) (defBody s_law_some) (defScope s_law_some) [] [] (He.ga K "_law_some") fd := F.c.d.def_ 13 rfl
theorem fun_law_base (F : Facts K mg) : ∃ fd, FunD K "_law_base" "_law_base" (defArgs s_law_base) (defBody s_law_base) (defScope s_law_base) [] [] (He.ga K "_law_base") fd := F.c.d.def_ 14 rfl
theorem fun_law_made (F : Facts K mg) : ∃ fd, FunD K "_law_made" "_law_made" (defArgs s_law_made) (defBody s_law_made) (defScope s_law_made) [] [] (He.ga K "_law_made") fd := F.c.d.def_ 15 rfl
theorem fun_law_stranger (F : Facts K mg) : ∃ fd, FunD K "_law_stranger" "_law_stranger" (defArgs s_law_stranger) (defBody s_law_stranger) (defScope s_law_stranger) [] [] (He.ga K "_law_stranger") fd := F.c.d.def_ 16 rfl
theorem fun_law_tuples (F : Facts K mg) : ∃ fd, FunD K "_law_tuples" "_law_tuples" (defArgs s_law_tuples) (defBody s_law_tuples) (defScope s_law_tuples) [] [] (He.ga K "_law_tuples") fd := F.c.d.def_ 17 rfl
theorem fun_law_near (F : Facts K mg) : ∃ fd, FunD K "_law_near" "_law_near" (defArgs s_law_near) (defBody s_law_near) (defScope s_law_near) [] [] (He.ga K "_law_near") fd := F.c.d.def_ 18 rfl
theorem fun_law_same (F : Facts K mg) : ∃ fd, FunD K "_law_same" "_law_same" (defArgs s_law_same) (defBody s_law_same) (defScope s_law_same) [] [] (He.ga K "_law_same") fd := F.c.d.def_ 19 rfl
theorem fun_law_refused (F : Facts K mg) : ∃ fd, FunD K "_law_refused" "_law_refused" (defArgs s_law_refused) (defBody s_law_refused) (defScope s_law_refused) [] [] (He.ga K "_law_refused") fd := F.c.d.def_ 20 rfl
theorem fun_law_strangers_right (F : Facts K mg) : ∃ fd, FunD K "_law_strangers_right" "_law_strangers_right" (defArgs s_law_strangers_right) (defBody s_law_strangers_right) (defScope s_law_strangers_right) [] [] (He.ga K "_law_strangers_right") fd := F.c.d.def_ 21 rfl
theorem fun_law (F : Facts K mg) : ∃ fd, FunD K "law" "law" (defArgs s_law) (defBody s_law) (defScope s_law) [] [] (He.ga K "law") fd := F.c.d.def_ 22 rfl
theorem fun_BadWeather_init (F : Facts K mg) : ∃ fd, FunD K "__init__" "BadWeather.__init__" (defArgs s_BadWeather_init) (defBody s_BadWeather_init) (defScope s_BadWeather_init) [] [] (He.ma K (He.ga K "BadWeather") "__init__") fd := F.c.d.def_ 23 rfl
theorem fun_Menu_init (F : Facts K mg) : ∃ fd, FunD K "__init__" "Menu.__init__" (defArgs s_Menu_init) (defBody s_Menu_init) (defScope s_Menu_init) [] [] (He.ma K (He.ga K "Menu") "__init__") fd := F.c.d.def_ 24 rfl
theorem fun_Menu_wishes (F : Facts K mg) : ∃ fd, FunD K "wishes" "Menu.wishes" (defArgs s_Menu_wishes) (defBody s_Menu_wishes) (defScope s_Menu_wishes) [] [] (He.ma K (He.ga K "Menu") "wishes") fd := F.c.d.def_ 25 rfl
theorem fun_Menu_back (F : Facts K mg) : ∃ fd, FunD K "back" "Menu.back" (defArgs s_Menu_back) (defBody s_Menu_back) (defScope s_Menu_back) [] [] (He.ma K (He.ga K "Menu") "back") fd := F.c.d.def_ 26 rfl
theorem fun_Menu_later (F : Facts K mg) : ∃ fd, FunD K "later" "Menu.later" (defArgs s_Menu_later) (defBody s_Menu_later) (defScope s_Menu_later) [] [] (He.ma K (He.ga K "Menu") "later") fd := F.c.d.def_ 27 rfl
theorem fun_Menu_eq (F : Facts K mg) : ∃ fd, FunD K "__eq__" "Menu.__eq__" (defArgs s_Menu_eq) (defBody s_Menu_eq) (defScope s_Menu_eq) [] [] (He.ma K (He.ga K "Menu") "__eq__") fd := F.c.d.def_ 28 rfl
theorem fun_Menu_check_weather (F : Facts K mg) : ∃ fd, FunD K "_check_weather" "Menu._check_weather" (defArgs s_Menu_check_weather) (defBody s_Menu_check_weather) (defScope s_Menu_check_weather) [] [] (He.ma K (He.ga K "Menu") "_check_weather") fd := F.c.d.def_ 29 rfl
end
end K02

namespace K02
open PySem PySem.Spec PyProof.Rows L2 Gx
section
variable {P : Program} {w : World} {K : PySem.W.Frag} {mg : Str → Option Value} {base : Heap}

theorem ways (F : Facts K mg) (H : Hp) : SqT K H (He.ga K "WAYS_BACK") ((["top", "place"] : List Str).map V.str) := tupB_ok (He.ba (He.ba (He.ba F.c.e).2).2).1 H
theorem letters (c : Nat) (h : 97 ≤ c ∧ c ≤ 122) : decide (c ∈ (Str.ofString "abcdefghijklmnopqrstuvwxyz").cps.toList) = true := by
  have all : ∀ k : Fin 26, decide (97 + k.val ∈ (Str.ofString "abcdefghijklmnopqrstuvwxyz").cps.toList) = true := by decide +kernel
  have := all ⟨c - 97, by omega⟩
  rwa [show 97 + (c - 97) = c from by omega] at this
theorem ca_is_name (F : Facts K mg) : Ca P w K mg base CX0 1 "is_name" (spIsName) := by
  obtain ⟨fd, D⟩ := fun_is_name F
  refine ⟨_, fd, ["value"], D.ok sc_is_name (fun vs H Q E h => ?_) (fun cdv A outer s H vs Q E hr h => ?_), D.bindsN fun _ _ _ _ _ _ us hl => match us, hl with | [_], _ => rfl, g_is_name F, D.kp⟩
  · obtain ⟨_, rfl, _⟩ := h
    rfl
  · have hu := hu_of hr
    skip
    refine ⟨_, PSs.nox (pss_cons (ps_if (PW.pt (pw_or (pt_not (pt_val (pe_callB call_isi (by rfl) (z_isinstance F) (by decide +kernel) (pa_cons (pv 0) (pa_cons (pe_bltn (v := .ty "str") (by rfl) (z_str F) (by decide +kernel) rfl) pa_nil))))) (pw_or1 (pt_not (pt_chain op_le op_le pe_int (pe_callB call_len (by rfl) (z_len F) boot_len (pa_cons (pv 0) pa_nil)) (pe_globI rfl (gi_MOST_LETTERS F))))))) (pss_one (ps_ret pe_bl)) pss_nil)
    (pss_one (ps_ret (pe_callB (cr_all rfl) (by rfl) (z_all F) (by decide +kernel) (pa_cons (pe_lc (own := [("letter", 1)]) (g := gName 1) rfl sc_is_name.nd (pi_str (pv 0)) (blkOk_by (own := [("letter", 1)]) (N := ["value", "letter"]) (sc := defScope s_is_name) (by decide +kernel)) (fun _ _ _ _ _ => (pg_name (i := 1) sc_is_name.nd rfl (Or.inl rfl))) (fun _ _ _ _ _ => pts_nil) (fun _ _ _ _ _ => (pe_cmpR op_in_sign (pv 1) (pe_globS rfl (gi_LETTERS F)) (by rfl)))) pa_nil))))), ?_⟩
    obtain ⟨x, rfl, ⟨n1, n8, nc⟩, q⟩ := h
    have hl : (x.length : Nat) ≤ sizeLine := by rw [sizeLine_eq]; omega
    refine ⟨_, rfl, .str x, .ty "str", _, _, _, rfl, .ty _, .base (.str x), kit_ty (r := true) (by decide +kernel), ?_⟩
    refine ⟨_, rfl, ?_⟩
    refine ⟨_, rfl, _, _, rfl, ⟨hl, rfl⟩, 1, _, rfl, rfl, _, rfl, ?_⟩
    have c1 : decide ((1 : Int) ≤ (x.length : Int)) = true := decide_eq_true (by omega)
    rw [c1]
    refine ⟨_, _, rfl, rfl, _, rfl, ?_⟩
    have c2 : decide ((x.length : Int) ≤ 8) = true := decide_eq_true (by omega)
    rw [c2]
    refine ⟨_, rfl, _, rfl, fun D hD => ?_⟩
    refine lc_it walk_str (fun i H' => Same H H' ∧ H' D = some (.lst (List.replicate i (.bl true)))) ⟨Same.new hD, upd_same⟩ (fun _ _ _ _ => trivial) (fun i v H1 H2 hi z y => ?_) (fun H' z => ?_)
    · obtain ⟨rfl, c, hc, rfl⟩ := y
      refine ⟨rfl, ?_⟩
      refine ⟨_, rfl, c, _, rfl, rfl, ?_⟩
      have hm : c ∈ x.cps.toList := by
        rw [← Array.getElem?_toList] at hc
        exact List.mem_of_getElem? hc
      have ha : decide (c ∈ (Str.ofString "abcdefghijklmnopqrstuvwxyz").cps.toList) = true := letters c (nc c hm)
      rw [ha]
      exact ⟨_, z.2, by rw [List.length_replicate]; exact Nat.lt_of_lt_of_le hi hl, ⟨Same.over z.1 hD, by rw [upd_same, List.replicate_succ']⟩⟩
    · refine ⟨D, List.replicate x.length true, rfl, SqL.of (by rw [List.map_replicate]; exact z.2), ?_⟩
      rw [show (List.replicate x.length true).all id = true from by simp]
      exact q _ z.1

theorem ca_are_different (F : Facts K mg) : Ca P w K mg base CX0 1 "are_different" (spDiff K) := by
  obtain ⟨fd, D⟩ := fun_are_different F
  refine ⟨_, fd, ["names"], D.ok sc_are_different (fun vs H Q E h => ?_) (fun cdv A outer s H vs Q E hr h => ?_), D.bindsN fun _ _ _ _ _ _ us hl => match us, hl with | [_], _ => rfl, g_are_different F, D.kp⟩
  · obtain ⟨_, _, rfl, _⟩ := h
    rfl
  · have hu := hu_of hr
    skip
    refine ⟨_, PSs.nox (pss_one (ps_ret (pe_cmpR op_eq (pe_lenSetT rfl rfl (z_len F) rfl (z_set F) (pv 0)) (pe_callB call_len (by rfl) (z_len F) boot_len (pa_cons (pv 0) pa_nil)) (nomark _)))), ?_⟩
    obtain ⟨v, xs, rfl, ⟨a, rfl, hs⟩, l, nd, q⟩ := h
    refine ⟨_, rfl, a, xs, rfl, hs, l, fun n h1 h2 => ?_⟩
    refine ⟨_, rfl, _, xs.length, rfl, ?_, ?_⟩
    · rcases hs with hs | hs
      · exact .inl ⟨_, hs, by simp⟩
      · exact .inr ⟨_, hs, by simp⟩
    refine ⟨rfl, ?_⟩
    rw [h2.mpr nd]
    simpa using q

theorem ca_are_names (F : Facts K mg) : Ca P w K mg base CX0 2 "are_names" (spThings K) := by
  obtain ⟨fd, D⟩ := fun_are_names F
  refine ⟨_, fd, ["row"], D.ok sc_are_names (fun vs H Q E h => ?_) (fun cdv A outer s H vs Q E hr h => ?_), D.bindsN fun _ _ _ _ _ _ us hl => match us, hl with | [_], _ => rfl, g_are_names F, D.kp⟩
  · obtain ⟨_, _, rfl, _⟩ := h
    rfl
  · have hu := hu_of hr
    skip
    refine ⟨_, PSs.nox (pss_one (ps_ret (pe_and (pe_cmpR op_gt (pe_callB call_len (by rfl) (z_len F) boot_len (pa_cons (pv 0) pa_nil)) pe_int (nomark _)) (pe_and (pe_callB (cr_all rfl) (by rfl) (z_all F) (by decide +kernel) (pa_cons (pe_lc (own := [("entry", 1)]) (g := gName 1) rfl sc_are_names.nd (pi_or (pi_list (pv 0)) (pi_tup (pv 0))) (blkOk_by (own := [("entry", 1)]) (N := ["row", "entry"]) (sc := defScope s_are_names) (by decide +kernel)) (fun _ _ _ _ _ => (pg_name (i := 1) sc_are_names.nd rfl (Or.inl rfl))) (fun _ _ _ _ _ => pts_nil) (fun _ _ _ _ _ => (pe_ca (ca_is_name F) (hr.mono (by decide)) rfl pass0 (pa_cons (pv 1) pa_nil)))) pa_nil)) (pe_one (pe_ca (ca_are_different F) (hr.mono (by decide)) rfl pass0 (pa_cons (pv 0) pa_nil))))))), ?_⟩
    obtain ⟨v, xs, rfl, hs, l1, l5, nm, nd, q⟩ := h
    have s1 : Same H H := Same.refl H
    obtain ⟨a, rfl, hs⟩ := hs
    have hln : (∃ ys, SqL K H a ys ∧ xs.length = ys.length) ∨ ∃ ys, SqT K H a ys ∧ xs.length = ys.length := hs.elim (fun h => .inl ⟨_, h, by simp⟩) (fun h => .inr ⟨_, h, by simp⟩)
    refine ⟨_, rfl, _, xs.length, rfl, hln, _, _, rfl, rfl, ?_⟩
    have c1 : decide ((0 : Int) < (xs.length : Int)) = true := decide_eq_true (by omega)
    refine ⟨_, rfl, ?_⟩
    rw [c1]
    have hz : (xs.map V.str).length ≤ sizeLine := by rw [sizeLine_eq, List.length_map]; omega
    rcases hs with hs | hs
    · have SQ : Sq K H (.ref a) xs := ⟨a, rfl, .inl (SqL.same hs s1)⟩
      refine .inl ⟨_, rfl, a, rfl, ⟨_, SqL.same hs s1⟩, fun D hD => lc_yes walk_list hD hz (fun H4 k => SqL.same (SqL.same hs s1) k) (fun x hx H5 R k r => ?_) fun H4 k e => ?_⟩
      rotate_left
      refine ⟨D, List.replicate (xs.map V.str).length true, rfl, SqL.of (by rw [List.map_replicate]; exact e), ?_⟩
      rw [show (List.replicate (xs.map V.str).length true).all id = true from by simp]
      rotate_right
      · obtain ⟨y, hy, rfl⟩ := List.mem_map.mp hx
        exact ⟨rfl, _, rfl, y, rfl, nm y hy, r⟩
      · refine ⟨_, rfl, ?_⟩
        exact ⟨_, rfl, _, xs, rfl, SQ.same k, by omega, nd, q _ (s1.trans k)⟩
    · have SQ : Sq K H (.ref a) xs := ⟨a, rfl, .inr (SqT.same hs s1)⟩
      refine .inr ⟨_, rfl, a, rfl, ⟨_, SqT.same hs s1⟩, fun D hD => lc_yes walk_tup hD hz (fun H4 k => SqT.same (SqT.same hs s1) k) (fun x hx H5 R k r => ?_) fun H4 k e => ?_⟩
      rotate_left
      refine ⟨D, List.replicate (xs.map V.str).length true, rfl, SqL.of (by rw [List.map_replicate]; exact e), ?_⟩
      rw [show (List.replicate (xs.map V.str).length true).all id = true from by simp]
      rotate_right
      · obtain ⟨y, hy, rfl⟩ := List.mem_map.mp hx
        exact ⟨rfl, _, rfl, y, rfl, nm y hy, r⟩
      · refine ⟨_, rfl, ?_⟩
        exact ⟨_, rfl, _, xs, rfl, SQ.same k, by omega, nd, q _ (s1.trans k)⟩

theorem ca_are_things (F : Facts K mg) : Ca P w K mg base CX0 3 "are_things" (spThings K) := by
  obtain ⟨fd, D⟩ := fun_are_things F
  refine ⟨_, fd, ["value"], D.ok sc_are_things (fun vs H Q E h => ?_) (fun cdv A outer s H vs Q E hr h => ?_), D.bindsN fun _ _ _ _ _ _ us hl => match us, hl with | [_], _ => rfl, g_are_things F, D.kp⟩
  · obtain ⟨_, _, rfl, _⟩ := h
    rfl
  · have hu := hu_of hr
    skip
    refine ⟨_, PSs.nox (pss_one (ps_ret (pe_and (pe_callB call_isiT (by rfl) (z_isinstance F) (by decide +kernel) (pa_cons (pv 0) (pa_cons (pe_tup (pa_cons (pe_bltn (v := .ty "list") (by rfl) (z_list F) (by decide +kernel) rfl) (pa_cons (pe_bltn (v := .ty "tuple") (by rfl) (z_tuple F) (by decide +kernel) rfl) pa_nil))) pa_nil))) (pe_and (pe_cmpR op_le (pe_callB call_len (by rfl) (z_len F) boot_len (pa_cons (pv 0) pa_nil)) (pe_globI rfl (gi_MOST_THINGS F)) (nomark _)) (pe_one (pe_ca (ca_are_names F) (hr.mono (by decide)) rfl pass0 (pa_cons (pv 0) pa_nil))))))), ?_⟩
    obtain ⟨v, xs, rfl, hs, l1, l5, nm, nd, q⟩ := h
    refine ⟨_, rfl, (by show 2 ≤ sizeLine; decide), fun t1 h1 => ?_⟩
    generalize g1 : upd _ t1 _ = H1
    obtain ⟨s1, e1, _⟩ := laid g1 h1
    obtain ⟨T, ty, ki⟩ := (hs.same s1).ty
    refine ⟨_, t1, _, T, _, true, rfl, e1, .cons (.ty _) (.cons (.ty _) .nil), ty, ki, ?_⟩
    refine ⟨_, rfl, ?_⟩
    obtain ⟨a, rfl, hs⟩ := hs
    have hln : (∃ ys, SqL K H1 a ys ∧ xs.length = ys.length) ∨ ∃ ys, SqT K H1 a ys ∧ xs.length = ys.length := hs.elim (fun h => .inl ⟨_, SqL.same h s1, by simp⟩) (fun h => .inr ⟨_, SqT.same h s1, by simp⟩)
    refine ⟨_, rfl, _, xs.length, rfl, hln, _, _, rfl, rfl, ?_⟩
    have c2 : decide ((xs.length : Int) ≤ 5) = true := decide_eq_true (by omega)
    refine ⟨_, rfl, ?_⟩
    rw [c2]
    exact ⟨_, rfl, _, xs, rfl, ⟨a, rfl, hs.imp (fun h => SqL.same h s1) (fun h => SqT.same h s1)⟩, l1, l5, nm, nd, fun H7 k7 => q _ (s1.trans k7)⟩

theorem ca_is_row_of (F : Facts K mg) : Ca P w K mg base CX0 2 "is_row_of" (spRow K) := by
  obtain ⟨fd, D⟩ := fun_is_row_of F
  refine ⟨_, fd, ["value", "names"], D.ok sc_is_row_of (fun vs H Q E h => ?_) (fun cdv A outer s H vs Q E hr h => ?_), D.bindsN fun _ _ _ _ _ _ us hl => match us, hl with | [_, _], _ => rfl, g_is_row_of F, D.kp⟩
  · obtain ⟨_, _, _, _, rfl, _⟩ := h
    rfl
  · have hu := hu_of hr
    skip
    refine ⟨_, PSs.nox (pss_cons (ps_if (PW.pt (pw_or (pt_not (pt_val (pe_callB call_isiT (by rfl) (z_isinstance F) (by decide +kernel) (pa_cons (pv 0) (pa_cons (pe_tup (pa_cons (pe_bltn (v := .ty "list") (by rfl) (z_list F) (by decide +kernel) rfl) (pa_cons (pe_bltn (v := .ty "tuple") (by rfl) (z_tuple F) (by decide +kernel) rfl) pa_nil))) pa_nil))))) (pw_or1 (pt_cmpR op_gt (pe_callB call_len (by rfl) (z_len F) boot_len (pa_cons (pv 0) pa_nil)) (pe_callB call_len (by rfl) (z_len F) boot_len (pa_cons (pv 1) pa_nil)) (nomark _))))) (pss_one (ps_ret pe_bl)) pss_nil)
    (pss_one (ps_ret (pe_and (pe_callB (cr_all rfl) (by rfl) (z_all F) (by decide +kernel) (pa_cons (pe_lc (own := [("entry", 2)]) (g := gName 2) rfl sc_is_row_of.nd (pi_or (pi_list (pv 0)) (pi_tup (pv 0))) (blkOk_by (own := [("entry", 2)]) (N := ["value", "names", "entry"]) (sc := defScope s_is_row_of) (by decide +kernel)) (fun _ _ _ _ _ => (pg_name (i := 2) sc_is_row_of.nd rfl (Or.inl rfl))) (fun _ _ _ _ _ => pts_nil) (fun _ _ _ _ _ => (pe_cmpR (op_in_seqK (K := K) rfl) (pv 2) (pv 1) (by rfl)))) pa_nil)) (pe_one (pe_ca (ca_are_different F) (hr.mono (by decide)) rfl pass0 (pa_cons (pv 0) pa_nil))))))), ?_⟩
    obtain ⟨v, ns, xs, ys, rfl, hs, hn, ly, sub, nd, q⟩ := h
    refine ⟨_, rfl, (by show 2 ≤ sizeLine; decide), fun t1 h1 => ?_⟩
    generalize g1 : upd _ t1 _ = H1
    obtain ⟨s1, e1, _⟩ := laid g1 h1
    obtain ⟨T, ty, ki⟩ := (hs.same s1).ty
    refine ⟨_, t1, _, T, _, true, rfl, e1, .cons (.ty _) (.cons (.ty _) .nil), ty, ki, ?_⟩
    refine ⟨_, rfl, ?_⟩
    obtain ⟨a, rfl, hs⟩ := hs
    have hln : (∃ ys, SqL K H1 a ys ∧ xs.length = ys.length) ∨ ∃ ys, SqT K H1 a ys ∧ xs.length = ys.length := hs.elim (fun h => .inl ⟨_, SqL.same h s1, by simp⟩) (fun h => .inr ⟨_, SqT.same h s1, by simp⟩)
    obtain ⟨b, rfl, hn⟩ := hn
    have hln2 : (∃ zs, SqL K H1 b zs ∧ ys.length = zs.length) ∨ ∃ zs, SqT K H1 b zs ∧ ys.length = zs.length := hn.elim (fun h => .inl ⟨_, SqL.same h s1, by simp⟩) (fun h => .inr ⟨_, SqT.same h s1, by simp⟩)
    have le := nodup_len nd sub
    refine ⟨_, rfl, _, xs.length, rfl, hln, _, rfl, _, ys.length, rfl, hln2, ?_⟩
    refine ⟨_, _, rfl, rfl, _, rfl, ?_⟩
    have c2 : decide ((ys.length : Int) < (xs.length : Int)) = false := decide_eq_false (by omega)
    rw [c2]
    have hz : (xs.map V.str).length ≤ sizeLine := by rw [sizeLine_eq, List.length_map]; omega
    rcases hs with hs | hs
    · have SQ : Sq K H1 (.ref a) xs := ⟨a, rfl, .inl (SqL.same hs s1)⟩
      refine .inl ⟨_, rfl, a, rfl, ⟨_, SqL.same hs s1⟩, fun D hD => lc_yes walk_list hD hz (fun H4 k => SqL.same (SqL.same hs s1) k) (fun x hx H5 R k r => ?_) fun H4 k e => ?_⟩
      rotate_left
      refine ⟨D, List.replicate (xs.map V.str).length true, rfl, SqL.of (by rw [List.map_replicate]; exact e), ?_⟩
      rw [show (List.replicate (xs.map V.str).length true).all id = true from by simp]
      rotate_right
      · obtain ⟨y, hy, rfl⟩ := List.mem_map.mp hx
        refine ⟨rfl, _, rfl, _, rfl, b, _, rfl, hn.imp (fun h => SqL.same h (s1.trans k)) (fun h => SqT.same h (s1.trans k)), rfl, flat_texts ys, ?_⟩
        rw [show (if false = true then !inV (.str y) (ys.map V.str) else inV (.str y) (ys.map V.str)) = true from by rw [in_texts]; simp [sub y hy]]
        exact r _ (Same.refl _)
      · refine ⟨_, rfl, ?_⟩
        exact ⟨_, rfl, _, xs, rfl, SQ.same k, by omega, nd, q _ (s1.trans k)⟩
    · have SQ : Sq K H1 (.ref a) xs := ⟨a, rfl, .inr (SqT.same hs s1)⟩
      refine .inr ⟨_, rfl, a, rfl, ⟨_, SqT.same hs s1⟩, fun D hD => lc_yes walk_tup hD hz (fun H4 k => SqT.same (SqT.same hs s1) k) (fun x hx H5 R k r => ?_) fun H4 k e => ?_⟩
      rotate_left
      refine ⟨D, List.replicate (xs.map V.str).length true, rfl, SqL.of (by rw [List.map_replicate]; exact e), ?_⟩
      rw [show (List.replicate (xs.map V.str).length true).all id = true from by simp]
      rotate_right
      · obtain ⟨y, hy, rfl⟩ := List.mem_map.mp hx
        refine ⟨rfl, _, rfl, _, rfl, b, _, rfl, hn.imp (fun h => SqL.same h (s1.trans k)) (fun h => SqT.same h (s1.trans k)), rfl, flat_texts ys, ?_⟩
        rw [show (if false = true then !inV (.str y) (ys.map V.str) else inV (.str y) (ys.map V.str)) = true from by rw [in_texts]; simp [sub y hy]]
        exact r _ (Same.refl _)
      · refine ⟨_, rfl, ?_⟩
        exact ⟨_, rfl, _, xs, rfl, SQ.same k, by omega, nd, q _ (s1.trans k)⟩

theorem ca_is_weather_entry (F : Facts K mg) : Ca P w K mg base CX0 3 "is_weather_entry" (spEntry K) := by
  obtain ⟨fd, D⟩ := fun_is_weather_entry F
  refine ⟨_, fd, ["value", "things", "weathers"], D.ok sc_is_weather_entry (fun vs H Q E h => ?_) (fun cdv A outer s H vs Q E hr h => ?_), D.bindsN fun _ _ _ _ _ _ us hl => match us, hl with | [_, _, _], _ => rfl, g_is_weather_entry F, D.kp⟩
  · obtain ⟨_, _, _, _, _, _, rfl, _⟩ := h
    rfl
  · have hu := hu_of hr
    skip
    refine ⟨_, PSs.nox (pss_cons (ps_if (PW.pt (pw_or (pt_not (pt_val (pe_callB call_isi (by rfl) (z_isinstance F) (by decide +kernel) (pa_cons (pv 0) (pa_cons (pe_bltn (v := .ty "tuple") (by rfl) (z_tuple F) (by decide +kernel) rfl) pa_nil))))) (pw_or1 (pt_cmpR op_ne (pe_callB call_len (by rfl) (z_len F) boot_len (pa_cons (pv 0) pa_nil)) pe_int (nomark _))))) (pss_one (ps_ret pe_bl)) pss_nil)
    (pss_cons (ps_asg (pv 0) (pg_tup rfl (pgs_cons (pg_name (i := 3) sc_is_weather_entry.nd rfl (Or.inl rfl)) (pgs_cons (pg_name (i := 4) sc_is_weather_entry.nd rfl (Or.inl rfl)) (pgs_cons (pg_name (i := 5) sc_is_weather_entry.nd rfl (Or.inl rfl)) pgs_nil)))))
    (pss_cons (ps_if (PW.pt (pw_or (pt_not (pt_val (pe_ca (ca_is_row_of F) (hr.mono (by decide)) rfl pass0 (pa_cons (pv 3) (pa_cons (pv 1) pa_nil))))) (pw_or1 (pt_not (pt_val (pe_ca (ca_is_row_of F) (hr.mono (by decide)) rfl pass0 (pa_cons (pv 5) (pa_cons (pv 2) pa_nil)))))))) (pss_one (ps_ret pe_bl)) pss_nil)
    (pss_one (ps_ret (pe_and (pe_cmpR (op_in_seqK (K := K) rfl) (pv 4) (pe_glob (v := .ref (He.ga K "WAYS_BACK")) rfl (g_WAYS_BACK F) rfl) (by rfl)) (pe_one (pe_cmpR op_gt (pe_callB call_len (by rfl) (z_len F) boot_len (pa_cons (pv 5) pa_nil)) pe_int (nomark _))))))))), ?_⟩
    obtain ⟨v, tv, wv, e, ts, ns, rfl, ⟨t, w2, l2, rfl, ht, hw, hl⟩, hT, hN, lt, ln, we, q⟩ := h
    refine ⟨_, rfl, _, .ty "tuple", _, _, true, rfl, .ty _, tyx_tup ht, kit_ty (by decide +kernel), ?_⟩
    refine ⟨_, rfl, ?_⟩
    refine ⟨_, rfl, _, 3, rfl, .inr ⟨_, ht, rfl⟩, rfl, ?_⟩
    refine ⟨_, rfl, ?_⟩
    refine iteNS (by decide) ?_
    refine ⟨_, rfl, t, _, rfl, ht, rfl, ?_⟩
    refine ⟨_, _, rfl, _, _, rfl, _, _, rfl, rfl, ?_⟩
    have lw : e.wishes.length ≤ ts.length := nodup_len we.wd we.w
    refine ⟨_, rfl, _, rfl, _, _, _, _, rfl, hw, hT, lt, we.w, we.wd, fun H1 k1 => ?_⟩
    refine ⟨_, rfl, ?_⟩
    refine ⟨_, rfl, _, rfl, _, _, _, _, rfl, hl.same k1, hN.same k1, ln, we.l, we.ld, fun H2 k2 => ?_⟩
    refine ⟨_, rfl, ?_⟩
    refine ⟨_, rfl, _, _, rfl, .inr (ways F H2), rfl, flat_texts _, ?_⟩
    have c1 : inV (.str e.back) ((["top", "place"] : List Str).map V.str) = true := by
      rw [in_texts]
      exact decide_eq_true (by rcases we.b with h | h <;> rw [h] <;> simp)
    have c3 : (if false = true then !inV (.str e.back) ((["top", "place"] : List Str).map V.str) else inV (.str e.back) ((["top", "place"] : List Str).map V.str)) = true := c1
    refine ⟨_, rfl, ?_⟩
    rw [c3]
    obtain ⟨b, rfl, hl⟩ := hl
    have hln : (∃ zs, SqL K H2 b zs ∧ e.later.length = zs.length) ∨ ∃ zs, SqT K H2 b zs ∧ e.later.length = zs.length := hl.elim (fun h => .inl ⟨_, SqL.same h (k1.trans k2), by simp⟩) (fun h => .inr ⟨_, SqT.same h (k1.trans k2), by simp⟩)
    refine ⟨_, rfl, _, e.later.length, rfl, hln, _, _, rfl, rfl, ?_⟩
    have c2 : decide ((0 : Int) < (e.later.length : Int)) = true := decide_eq_true (by have := List.length_pos_iff.mpr we.l0; omega)
    show Q (V.bl (decide ((0 : Int) < (e.later.length : Int)))) H2
    rw [c2]
    exact q _ (k1.trans k2)

theorem ca_are_weathers (F : Facts K mg) : Ca P w K mg base CX0 4 "are_weathers" (spWeathers K) := by
  obtain ⟨fd, D⟩ := fun_are_weathers F
  refine ⟨_, fd, ["value", "things"], D.ok sc_are_weathers (fun vs H Q E h => ?_) (fun cdv A outer s H vs Q E hr h => ?_), D.bindsN fun _ _ _ _ _ _ us hl => match us, hl with | [_, _], _ => rfl, g_are_weathers F, D.kp⟩
  · obtain ⟨_, _, _, _, rfl, _⟩ := h
    rfl
  · have hu := hu_of hr
    skip
    refine ⟨_, PSs.nox (pss_cons (ps_if (PW.pt (pw_or (pt_not (pt_val (pe_callB call_isi (by rfl) (z_isinstance F) (by decide +kernel) (pa_cons (pv 0) (pa_cons (pe_bltn (v := .ty "dict") (by rfl) (z_dict F) (by decide +kernel) rfl) pa_nil))))) (pw_or1 (pt_not (pt_chain op_le op_le pe_int (pe_callB call_lenD (by rfl) (z_len F) boot_len (pa_cons (pv 0) pa_nil)) (pe_globI rfl (gi_MOST_WEATHERS F))))))) (pss_one (ps_ret pe_bl)) pss_nil)
    (pss_cons (ps_set (i := 2) sc_are_weathers.nd rfl (Or.inr rfl) (pe_callTy (call_list_dK rfl) (by rfl) (z_list F) (by decide +kernel) (pa_cons (pv 0) pa_nil)))
    (pss_one (ps_ret (pe_callB (cr_all rfl) (by rfl) (z_all F) (by decide +kernel) (pa_cons (pe_lc (own := [("name", 3)]) (g := gName 3) rfl sc_are_weathers.nd (pi_list (pv 2)) (blkOk_by (own := [("name", 3)]) (N := ["value", "things", "names", "name"]) (sc := defScope s_are_weathers) (by decide +kernel)) (fun _ _ _ _ _ => (pg_name (i := 3) sc_are_weathers.nd rfl (Or.inl rfl))) (fun _ _ _ _ _ => pts_nil) (fun _ _ _ _ _ => (pe_and (pe_ca (ca_is_name F) (hr.mono (by decide)) rfl pass0 (pa_cons (pv 3) pa_nil)) (pe_one (pe_ca (ca_is_weather_entry F) (hr.mono (by decide)) rfl pass0 (pa_cons (pe_dget hu (pv 0) (pv 3) (fun _ _ => rfl)) (pa_cons (pv 1) (pa_cons (pv 2) pa_nil)))))))) pa_nil)))))), ?_⟩
    obtain ⟨d, tv, b, kvs, rfl, hd, he, ht, wf, q⟩ := h
    have hk := he.keys
    have hlen : kvs.length = b.ws.length := by simpa using congrArg List.length hk
    have a1 := wf.w1
    have a4 := wf.w4
    refine ⟨_, rfl, _, .ty "dict", _, _, true, rfl, .ty _, .base (.dK hd), kit_ty (by decide +kernel), ?_⟩
    refine ⟨_, rfl, ?_⟩
    refine ⟨_, rfl, d, kvs, rfl, hd, 1, _, rfl, rfl, _, rfl, ?_⟩
    have c1 : decide ((1 : Int) ≤ (kvs.length : Int)) = true := decide_eq_true (by omega)
    rw [c1]
    refine ⟨_, _, rfl, rfl, _, rfl, ?_⟩
    have c2 : decide ((kvs.length : Int) ≤ 4) = true := decide_eq_true (by omega)
    rw [c2]
    refine ⟨_, rfl, d, kvs, rfl, hd, fun p h1 => ?_⟩
    have ek : (kvs.map fun kv => kV kv.1) = b.names.map V.str := by
      have e := congrArg (List.map kV) hk
      rw [List.map_map, List.map_map] at e
      unfold Bs.names
      rw [List.map_map]
      exact e
    rw [ek]
    generalize g1 : upd _ p _ = H1
    obtain ⟨s1, e1, _⟩ := laid g1 h1
    have hz : (b.names.map V.str).length ≤ sizeLine := by rw [sizeLine_eq]; unfold Bs.names; simp; omega
    have ln : b.names.length < 1000 := by unfold Bs.names; simp; omega
    refine ⟨_, rfl, p, rfl, ⟨_, SqL.of e1⟩, fun D hD => lc_yes walk_list hD hz (fun H4 k => SqL.same (SqL.of e1) k) (fun x hx H5 R k r => ?_) fun H4 k e => ?_⟩
    · obtain ⟨y, hy, rfl⟩ := List.mem_map.mp hx
      refine ⟨rfl, _, rfl, y, rfl, wf.wn y hy, fun H6 k6 => ?_⟩
      refine ⟨_, rfl, ?_⟩
      obtain ⟨en, hen, rfl⟩ := List.mem_map.mp hy
      obtain ⟨i, hi, ei⟩ := List.mem_iff_getElem.mp hen
      have nd : (kvs.map (·.1)).Nodup := by
        rw [hk]
        have := wf.wd
        unfold Bs.names at this
        rw [show (b.ws.map fun e => (Sum.inr e.name : Key)) = (b.ws.map Ent.name).map Sum.inr from by rw [List.map_map]; rfl]
        exact List.Pairwise.map _ (fun a b h e => h (Sum.inr.inj e)) this
      have hi2 : i < kvs.length := by omega
      have eki : kvs[i]? = some kvs[i] := List.getElem?_eq_getElem hi2
      obtain ⟨en2, f1, f2, f3⟩ := Paired.at2 he eki
      have f4 : en2 = en := by
        rw [List.getElem?_eq_getElem hi, ei] at f1
        exact (Option.some.inj f1).symm
      subst f4
      have gv : valV kvs (.inr en2.name) = some kvs[i].2 := valV_at (i := i) nd (by rw [eki, ← f2])
      have S6 : Same H H6 := s1.trans (k.trans k6)
      refine ⟨_, rfl, _, rfl, d, kvs[i].2, rfl, by rw [← gv]; exact DGet.k (k := .inr en2.name) (S6 _ _ hd), _, rfl, _, rfl, ?_⟩
      exact ⟨_, _, _, en2, _, _, rfl, f3.same S6, ht.same S6, ⟨p, rfl, .inl (SqL.of ((k.trans k6) _ _ e1))⟩, by have := wf.t5; omega, ln, wf.we en2 hen, fun H7 k7 => r _ (k6.trans k7)⟩
    · refine ⟨D, List.replicate (b.names.map V.str).length true, rfl, SqL.of (by rw [List.map_replicate]; exact e), ?_⟩
      rw [show (List.replicate (b.names.map V.str).length true).all id = true from by simp]
      exact q _ (s1.trans k)

end
end K02

/-! the laws' draws: what they promise -/
namespace Gx
open PySem PySem.Spec PyProof.Rows L2
def SrcO (o : HO) : Prop := ∃ x y : Int, o = .lst [.int x, .int y] ∧ 0 ≤ x ∧ 0 ≤ y ∧ y < 2147483648
def SrcAt (H : Hp) (p : Addr) : Prop := ∃ x y : Int, H p = some (.lst [.int x, .int y]) ∧ 0 ≤ x ∧ 0 ≤ y ∧ y < 2147483648
theorem SrcAt.put {H : Hp} {p : Addr} {o : HO} (h : SrcO o) : SrcAt (upd H p o) p := by
  obtain ⟨x, y, rfl, h⟩ := h
  exact ⟨x, y, upd_same, h⟩
theorem SrcAt.same {H H' : Hp} {p : Addr} (h : SrcAt H p) (k : Same H H') : SrcAt H' p := by
  obtain ⟨x, y, e, h⟩ := h
  exact ⟨x, y, k _ _ e, h⟩
theorem SrcAt.old {H : Hp} {p : Addr} (h : SrcAt H p) {a : Addr} (n : H a = none) : a ≠ p := fun z => by
  obtain ⟨x, y, e, _⟩ := h
  rw [z, e] at n
  cases n
section
variable {K : PySem.W.Frag} {p : Addr} {H H' : Hp}
theorem SqT.src {a : Addr} {xs : List V} (h : SqT K H a xs) (k : Kp p H H') (s : SrcAt H p) : SqT K H' a xs := by
  obtain ⟨x, y, e, _⟩ := s
  rcases h with h | h
  · have ne : a ≠ p := fun z => by
      subst z
      rcases h with h | ⟨o, h⟩ <;> rw [e] at h <;> cases h
    rcases h with h | ⟨o, h⟩
    · exact .inl (.inl (k _ _ ne h))
    · exact .inl (.inr ⟨o, k _ _ ne h⟩)
  · exact .inr h
theorem Kp.none {a : Addr} (k : Kp p H H') (s : SrcAt H p) (h : H' a = Option.none) (hs : SrcAt H' p) : H a = Option.none := by
  rcases q : H a with _ | o
  · rfl
  · have ne : a ≠ p := hs.old h
    rw [k _ _ ne q] at h
    cases h
end
def spDraw : Sp := fun vs H Q _ => ∃ (p : Addr) (k : Int), vs = [.ref p, .int k] ∧ SrcAt H p ∧ 0 < k ∧ k < 1073741824 ∧ ∀ (r : Int) (o : HO), 0 ≤ r → r < k → SrcO o → Q (.int r) (upd H p o)
def spSource (K : PySem.W.Frag) : Sp := fun vs H Q _ => ∃ (a : Addr) (ns : List Int) (st : Int), vs = [.ref a, .int st] ∧ SqL K H a (ns.map V.int) ∧ ns.length ≤ 63 ∧ (∀ z ∈ ns, Builtin.Int.intBits z ≤ 1048576) ∧ 0 ≤ st ∧ st < 1000000 ∧
  ∀ (p : Addr) (o : HO), H p = none → SrcO o → Q (.ref p) (upd H p o)
/-- one of a list, or a sign of a text -/
def spPick (K : PySem.W.Frag) : Sp := fun vs H Q _ => ∃ (p : Addr) (w : V), vs = [.ref p, w] ∧ SrcAt H p ∧
  ((∃ (b : Addr) (xs : List V), w = .ref b ∧ SqL K H b xs ∧ 0 < xs.length ∧ xs.length < 1000000 ∧ b ≠ p ∧ ∀ (v : V) (o : HO), v ∈ xs → SrcO o → Q v (upd H p o)) ∨
   (∃ z : Str, w = .str z ∧ 0 < z.length ∧ z.length < 1000000 ∧ ∀ (c : Nat) (o : HO), c ∈ z.cps.toList → SrcO o → Q (.str ⟨#[c]⟩) (upd H p o)))
/-- the things in a drawn sequence -/
def spMixed (K : PySem.W.Frag) : Sp := fun vs H Q _ => ∃ (p a : Addr) (xs : List Str), vs = [.ref p, .ref a] ∧ SrcAt H p ∧ a ≠ p ∧ (SqL K H a (xs.map V.str) ∨ SqT K H a (xs.map V.str)) ∧ xs.length < 1000 ∧ (∀ x ∈ xs, okS x) ∧
  ∀ (H' : Hp) (q : Addr) (ys : List Str), Kp p H H' → SrcAt H' p → H' q = some (.lst (ys.map V.str)) → ys.Perm xs → H q = none → Q (.ref q) H'
def spWord : Sp := fun vs H Q _ => ∃ p, vs = [.ref p] ∧ SrcAt H p ∧ ∀ H' x, Kp p H H' → SrcAt H' p → NM x → Q (.str x) H'
def spNames (K : PySem.W.Frag) : Sp := fun vs H Q _ => ∃ (p : Addr) (many : Int), vs = [.ref p, .int many] ∧ SrcAt H p ∧ 1 ≤ many ∧ many ≤ 5 ∧
  ∀ (H' : Hp) (q : Addr) (ys : List Str), Kp p H H' → SrcAt H' p → H' q = some (.lst (ys.map V.str)) → (ys.length : Int) = many → ys.Nodup → (∀ y ∈ ys, NM y) → H q = none → Q (.ref q) H'
def spSome (K : PySem.W.Frag) : Sp := fun vs H Q _ => ∃ (p a : Addr) (xs : List Str) (least : Int), vs = [.ref p, .ref a, .int least] ∧ SrcAt H p ∧ a ≠ p ∧ (SqL K H a (xs.map V.str) ∨ SqT K H a (xs.map V.str)) ∧ xs.Nodup ∧ (∀ x ∈ xs, okS x) ∧ 0 ≤ least ∧ least ≤ xs.length ∧ xs.length ≤ 5 ∧
  ∀ (H' : Hp) (t : Addr) (ys : List Str), Kp p H H' → SrcAt H' p → SqT K H' t (ys.map V.str) → ys.Nodup → (∀ y ∈ ys, y ∈ xs) → least ≤ (ys.length : Int) → Q (.ref t) H'
/-- an entry as the laws hold it: (name, wishes, back, later), tuples throughout -/
def EAt (K : PySem.W.Frag) (H : Hp) (v : V) (e : Ent) : Prop := ∃ a w l, v = .ref a ∧ SqT K H a [.str e.name, .ref w, .str e.back, .ref l] ∧ SqT K H w (e.wishes.map V.str) ∧ SqT K H l (e.later.map V.str)
/-- a menu as the laws hold it -/
def BaseAt (K : PySem.W.Frag) (H : Hp) (t : Addr) (b : Bs) : Prop := ∃ th wt es, SqT K H t [.ref th, .ref wt] ∧ SqT K H th (b.things.map V.str) ∧ SqT K H wt es ∧ Paired (EAt K H) es b.ws
section
variable {K : PySem.W.Frag} {p : Addr} {H H' : Hp}
theorem EAt.src {v : V} {e : Ent} (h : EAt K H v e) (k : Kp p H H') (s : SrcAt H p) : EAt K H' v e := by
  obtain ⟨a, w, l, rfl, h1, h2, h3⟩ := h
  exact ⟨a, w, l, rfl, SqT.src h1 k s, SqT.src h2 k s, SqT.src h3 k s⟩
theorem EAt.same {v : V} {e : Ent} (h : EAt K H v e) (k : Same H H') : EAt K H' v e := by
  obtain ⟨a, w, l, rfl, h1, h2, h3⟩ := h
  exact ⟨a, w, l, rfl, SqT.same h1 k, SqT.same h2 k, SqT.same h3 k⟩
theorem BaseAt.src {t : Addr} {b : Bs} (h : BaseAt K H t b) (k : Kp p H H') (s : SrcAt H p) : BaseAt K H' t b := by
  obtain ⟨a, w, es, h1, h2, h3, h4⟩ := h
  exact ⟨a, w, es, SqT.src h1 k s, SqT.src h2 k s, SqT.src h3 k s, Paired.imp2 (fun _ _ q => q.src k s) h4⟩
theorem BaseAt.same {t : Addr} {b : Bs} (h : BaseAt K H t b) (k : Same H H') : BaseAt K H' t b := by
  obtain ⟨a, w, es, h1, h2, h3, h4⟩ := h
  exact ⟨a, w, es, SqT.same h1 k, SqT.same h2 k, SqT.same h3 k, Paired.imp2 (fun _ _ q => q.same k) h4⟩
end
def spBase (K : PySem.W.Frag) : Sp := fun vs H Q _ => ∃ (p : Addr) (most : Int), vs = [.ref p, .int most] ∧ SrcAt H p ∧ 1 ≤ most ∧ most ≤ 5 ∧ ∀ H' t b, Kp p H H' → SrcAt H' p → BaseAt K H' t b → WF b → Q (.ref t) H'
end Gx

/-! a menu whose makings are changed behind -/
namespace Gx
open PySem PySem.Spec PyProof.Rows L2
/-- the menu at m is b, its dicts not there in H0 -/
def IsMF (K : PySem.W.Frag) (H0 H : Hp) (m : Addr) (b : Bs) : Prop := ∃ (dx t1 t2 d1 d2 d3 : Addr) (k1 k3 : List (Key × V)),
  H m = some (.ins (He.ga K "Menu") dx [("_things", .ref t1), ("_weathers", .ref t2), ("_wishes", .ref d1), ("_back", .ref d2), ("_later", .ref d3)]) ∧ H dx = some (.own m) ∧ SqT K H t1 (b.things.map V.str) ∧ SqT K H t2 (b.names.map V.str) ∧
  H d1 = some (.dK k1) ∧ TupsAt K H k1 (b.ws.map fun e => (e.name, e.wishes)) ∧ H d2 = some (.dK (b.ws.map fun e => (.inr e.name, .str e.back))) ∧ H d3 = some (.dK k3) ∧ TupsAt K H k3 (b.ws.map fun e => (e.name, e.later)) ∧ H0 d1 = none ∧ H0 d2 = none ∧ H0 d3 = none
section
variable {K : PySem.W.Frag} {H0 H H' : Hp} {m : Addr} {b : Bs}
theorem IsMF.is (h : IsMF K H0 H m b) : IsM K H m b := by
  obtain ⟨dx, t1, t2, d1, d2, d3, k1, k3, h1, h0, h2, h3, h4, h5, h6, h7, h8, _⟩ := h
  exact ⟨dx, t1, t2, d1, d2, d3, k1, k3, h1, h0, h2, h3, h4, h5, h6, h7, h8⟩
theorem IsMF.same (h : IsMF K H0 H m b) (k : Same H H') : IsMF K H0 H' m b := by
  obtain ⟨dx, t1, t2, d1, d2, d3, k1, k3, h1, h0, h2, h3, h4, h5, h6, h7, h8, h9⟩ := h
  exact ⟨dx, t1, t2, d1, d2, d3, k1, k3, k _ _ h1, k _ _ h0, SqT.same h2 k, SqT.same h3 k, k _ _ h4, h5.same k, k _ _ h6, k _ _ h7, h8.same k, h9⟩
theorem SqT.lstK {w a : Addr} {xs ys : List V} (h : SqT K H a xs) (k : Kp w H H') (e : H w = some (.lst ys)) : SqT K H' a xs := by
  rcases h with h | h
  · have ne : a ≠ w := fun z => by
      subst z
      rcases h with h | ⟨o, h⟩ <;> rw [e] at h <;> cases h
    rcases h with h | ⟨o, h⟩
    · exact .inl (.inl (k _ _ ne h))
    · exact .inl (.inr ⟨o, k _ _ ne h⟩)
  · exact .inr h
/-- a list is written -/
theorem IsMF.lst {w : Addr} {ys : List V} (h : IsMF K H0 H m b) (k : Kp w H H') (e : H w = some (.lst ys)) : IsMF K H0 H' m b := by
  obtain ⟨dx, t1, t2, d1, d2, d3, k1, k3, h1, h0, h2, h3, h4, h5, h6, h7, h8, h9⟩ := h
  have f : ∀ {a o}, H a = some o → (∀ xs, o ≠ .lst xs) → H' a = some o := fun {a o} q n => k _ _ (fun z => by rw [z, e] at q; cases q; exact n _ rfl) q
  exact ⟨dx, t1, t2, d1, d2, d3, k1, k3, f h1 (by intros; simp), f h0 (by intros; simp), SqT.lstK h2 k e, SqT.lstK h3 k e, f h4 (by intros; simp), Paired.imp2 (fun _ _ ⟨q, a, r, z⟩ => ⟨q, a, r, SqT.lstK z k e⟩) h5, f h6 (by intros; simp), f h7 (by intros; simp),
    Paired.imp2 (fun _ _ ⟨q, a, r, z⟩ => ⟨q, a, r, SqT.lstK z k e⟩) h8, h9⟩
/-- a dict that was there is written -/
theorem IsMF.dic {d : Addr} {kvs : List (Key × V)} {u : HO} (h : IsMF K H0 H m b) (k : Kp d H H') (e : H d = some (.dK kvs)) (old : H0 d = some u) : IsMF K H0 H' m b := by
  obtain ⟨dx, t1, t2, d1, d2, d3, k1, k3, h1, h0, h2, h3, h4, h5, h6, h7, h8, n1, n2, n3⟩ := h
  have f : ∀ {a o}, H a = some o → (∀ xs, o ≠ .dK xs) → H' a = some o := fun {a o} q n => k _ _ (fun z => by rw [z, e] at q; cases q; exact n _ rfl) q
  have g : ∀ {a o}, H a = some o → H0 a = none → H' a = some o := fun {a o} q n => k _ _ (fun z => by rw [z, old] at n; cases n) q
  have nd := NoSq.dK e
  exact ⟨dx, t1, t2, d1, d2, d3, k1, k3, f h1 (by intros; simp), f h0 (by intros; simp), SqT.kp h2 k nd, SqT.kp h3 k nd, g h4 n1, h5.kp k nd, g h6 n2, g h7 n3, h8.kp k nd, n1, n2, n3⟩
end
/-- Menu's own __init__ at a new instance, its dicts new -/
def spInitF (K : PySem.W.Frag) : Sp := fun vs H Q _ => ∃ m dx tv d b kvs, vs = [.ref m, tv, .ref d] ∧ H m = some (.ins (He.ga K "Menu") dx []) ∧ H dx = some (.own m) ∧ H d = some (.dK kvs) ∧ EntsAt K H kvs b.ws ∧ Sq K H tv b.things ∧ WF b ∧
  ∀ H', Kp m H H' → IsMF K H H' m b → Q .non H'
/-- the menu made, whatever it was made of -/
def spMade (K : PySem.W.Frag) : Sp := fun vs H Q _ => ∃ t b, vs = [.ref t] ∧ BaseAt K H t b ∧ WF b ∧ ∀ H' m, Same H H' → IsM K H' m b → H m = none → Q (.ref m) H'
/-- an entry whose lists are of Fr, of at most N items -/
def LAt (K : PySem.W.Frag) (Fr : Addr → Prop) (H : Hp) (N : Nat) (p : Key × V) (e : Ent) : Prop := p.1 = .inr e.name ∧ ∃ t w l, p.2 = .ref t ∧ SqT K H t [.ref w, .str e.back, .ref l] ∧ Fr w ∧ Fr l ∧ (∃ ys, H w = some (.lst ys) ∧ ys.length ≤ N) ∧ ∃ ys, H l = some (.lst ys) ∧ ys.length ≤ N
/-- .. just as they were handed in -/
def XAt (K : PySem.W.Frag) (H0 H : Hp) (p : Key × V) (e : Ent) : Prop := p.1 = .inr e.name ∧ ∃ t w l, p.2 = .ref t ∧ SqT K H t [.ref w, .str e.back, .ref l] ∧ H0 w = none ∧ H0 l = none ∧ H w = some (.lst (e.wishes.map V.str)) ∧ H l = some (.lst (e.later.map V.str))
section
variable {K : PySem.W.Frag} {H0 H H' : Hp} {N : Nat} {p : Key × V} {e : Ent}
theorem XAt.same (h : XAt K H0 H p e) (k : Same H H') : XAt K H0 H' p e := by
  obtain ⟨a, t, w, l, b, c, n1, n2, d, f⟩ := h
  exact ⟨a, t, w, l, b, SqT.same c k, n1, n2, k _ _ d, k _ _ f⟩
theorem XAt.dic {d : Addr} {kvs : List (Key × V)} (h : XAt K H0 H p e) (k : Kp d H H') (ed : H d = some (.dK kvs)) : XAt K H0 H' p e := by
  obtain ⟨a, t, w, l, b, c, n1, n2, q, r⟩ := h
  exact ⟨a, t, w, l, b, SqT.kp c k (NoSq.dK ed), n1, n2, k _ _ (fun z => by rw [z, ed] at q; cases q) q, k _ _ (fun z => by rw [z, ed] at r; cases r) r⟩
theorem XAt.l {q : Addr} (h : XAt K H0 H p e) (n : H q = none) (lw : e.wishes.length ≤ N) (ll : e.later.length ≤ N) : LAt K (fun a => H0 a = none ∧ a ≠ q) H N p e := by
  obtain ⟨a, t, w, l, b, c, n1, n2, d, f⟩ := h
  exact ⟨a, t, w, l, b, c, ⟨n1, fun z => by rw [z, n] at d; cases d⟩, ⟨n2, fun z => by rw [z, n] at f; cases f⟩, ⟨_, d, by rw [List.length_map]; exact lw⟩, _, f, by rw [List.length_map]; exact ll⟩
theorem XAt.ent (h : XAt K H0 H p e) : p.1 = .inr e.name ∧ EntAt K H p.2 e := by
  obtain ⟨a, t, w, l, b, c, n1, n2, d, f⟩ := h
  exact ⟨a, t, .ref w, .ref l, b, c, ⟨w, rfl, .inl (SqL.of d)⟩, ⟨l, rfl, .inl (SqL.of f)⟩⟩
variable {Fr : Addr → Prop}
theorem LAt.mono {M : Nat} (h : LAt K Fr H N p e) (le : N ≤ M) : LAt K Fr H M p e := by
  obtain ⟨a, t, w, l, b, c, n1, n2, ⟨y, d, d2⟩, z, f, f2⟩ := h
  exact ⟨a, t, w, l, b, c, n1, n2, ⟨y, d, by omega⟩, z, f, by omega⟩
theorem LAt.same (h : LAt K Fr H N p e) (k : Same H H') : LAt K Fr H' N p e := by
  obtain ⟨a, t, w, l, b, c, n1, n2, ⟨y, d, d2⟩, z, f, f2⟩ := h
  exact ⟨a, t, w, l, b, SqT.same c k, n1, n2, ⟨y, k _ _ d, d2⟩, z, k _ _ f, f2⟩
/-- one list grows by one -/
theorem LAt.app {q : Addr} {xs : List V} {v : V} (h : LAt K Fr H N p e) (eq : H q = some (.lst xs)) (lx : xs.length ≤ N) : LAt K Fr (upd H q (.lst (xs ++ [v]))) (N + 1) p e := by
  obtain ⟨a, t, w, l, b, c, n1, n2, ⟨y, d, d2⟩, z, f, f2⟩ := h
  have one : ∀ {r : Addr} {ys : List V}, H r = some (.lst ys) → ys.length ≤ N → ∃ zs, (upd H q (.lst (xs ++ [v]))) r = some (.lst zs) ∧ zs.length ≤ N + 1 := fun {r ys} hr hy => by
    by_cases c : r = q
    · subst c
      exact ⟨_, upd_same, by rw [List.length_append]; simp; exact lx⟩
    · exact ⟨ys, by rw [upd_ne c]; exact hr, by omega⟩
  exact ⟨a, t, w, l, b, SqT.lstK c Kp.put eq, n1, n2, one d d2, one f f2⟩
end
end Gx

namespace K02
open PySem PySem.Spec PyProof.Rows L2 Gx
section
variable {P : Program} {w : World} {K : PySem.W.Frag} {mg : Str → Option Value} {base : Heap}

theorem exb (F : Facts K mg) : ExB K "BadWeather" "value" := exB_ok (He.ba F.c.e).1
theorem exm (F : Facts K mg) : PySem.W.exmOne K (.ref (He.ga K "BadWeather")) (.ref (He.ga K "BadWeather")) = some true := of_decide_eq_true (He.ba (He.ba F.c.e).2).1
theorem menuTy (F : Facts K mg) {T : String} (h : T ∈ ["NoneType", "bool", "int", "str", "list", "tuple", "dict"]) : PySem.W.kitOne K (.type T) (.ref (He.ga K "Menu")) = some false ∧ PySem.W.notFirst K (He.ga K "Menu") (.type T) = true := by
  have e := List.all_eq_true.mp (He.ba (He.ba (He.ba (He.ba F.c.e).2).2).2).1 T h
  exact ⟨of_decide_eq_true (He.ba e).1, (He.ba e).2⟩
theorem menuI (F : Facts K mg) : InstB K "Menu" := instB_ok (He.ba (He.ba (He.ba (He.ba F.c.e).2).2).2).2
theorem ex_BadWeather (F : Facts K mg) : ∃ fI fd, ExK P w K mg base "BadWeather" (He.ga K "BadWeather") "value" fI fd := by
  obtain ⟨fd, D⟩ := fun_BadWeather_init F
  have B := exb F
  refine ⟨_, fd, B.T, B.i, B.t, D.ok sc_BadWeather_init (fun vs H Q E h => ?_) (fun cdv A outer s H vs Q E hr h => ?_), D.bindsN fun _ _ _ _ _ _ us hl => match us, hl with | [_, _], _ => rfl, kb_one D (fun _ _ _ _ _ _ _ _ => rfl), g_BadWeather F⟩
  · obtain ⟨_, _, rfl, _⟩ := h
    rfl
  · obtain ⟨a, v, rfl, ha, q⟩ := h
    exact ⟨_, PSs.nox (pss_one (ps_ost (pv 0) (pv 1))), _, rfl, _, rfl, a, _, rfl, B.T, B.no, .inl ⟨ha, q⟩⟩
theorem paired_eq {f : Ent → V} : ∀ {kvs : List (Key × V)} {ws : List Ent}, Paired (fun (p : Key × V) (e : Ent) => p.1 = .inr e.name ∧ p.2 = f e) kvs ws → kvs = ws.map fun e => (Sum.inr e.name, f e)
  | _, _, .nil => rfl
  | (a, b) :: _, _, .cons ⟨h1, h2⟩ t => by
    simp only at h1 h2
    rw [List.map_cons, ← paired_eq t, h1, h2]
theorem tups_of {K : PySem.W.Frag} {H : Hp} {f : Ent → List Str} : ∀ {kvs : List (Key × V)} {ws : List Ent}, Paired (fun (p : Key × V) (e : Ent) => p.1 = .inr e.name ∧ ∃ a, p.2 = V.ref a ∧ SqT K H a ((f e).map V.str)) kvs ws → TupsAt K H kvs (ws.map fun e => (e.name, f e))
  | _, _, .nil => .nil
  | _, _, .cons h t => .cons h (tups_of t)
theorem mk_Menu (F : Facts K mg) : CaI P w K mg base CX0 5 "Menu" (He.ga K "Menu") (spInitF K) := by
  obtain ⟨fd, D⟩ := fun_Menu_init F
  refine ⟨_, fd, ["self", "things", "weathers"], D.ok sc_Menu_init (fun vs H Q E h => ?_) (fun cdv A outer s H vs Q E hr h => ?_), D.bindsN fun _ _ _ _ _ _ us hl => match us, hl with | [_, _, _], _ => rfl, mkr_Menu F, g_Menu F⟩
  · obtain ⟨_, _, _, _, _, _, rfl, _⟩ := h
    rfl
  · have hu := hu_of hr
    skip
    refine ⟨_, PSs.nox (pss_cons (ps_if (pt_not (pt_val (pe_ca (ca_are_things F) (hr.mono (by decide)) rfl pass0 (pa_cons (pv 1) pa_nil)))) (pss_one ps_never) pss_nil)
    (pss_cons (ps_if (pt_not (pt_val (pe_ca (ca_are_weathers F) (hr.mono (by decide)) rfl pass0 (pa_cons (pv 2) (pa_cons (pv 1) pa_nil))))) (pss_one ps_never) pss_nil)
    (pss_cons (ps_fld (pv 0) (pe_callTy (call_tuple_ofK (K := K) rfl) (by rfl) (z_tuple F) (by decide +kernel) (pa_cons (pv 1) pa_nil)) rfl)
    (pss_cons (ps_fld (pv 0) (pe_callTy (call_tupleD rfl) (by rfl) (z_tuple F) (by decide +kernel) (pa_cons (pv 2) pa_nil)) rfl)
    (pss_cons (ps_fld (pv 0) (pe_lock (pe_dc (own := [("name", 3)]) (tt := tYes) (g := gName 3) rfl sc_Menu_init.nd (pi_keys (pv 2)) (blkOk_by (own := [("name", 3)]) (N := ["self", "things", "weathers", "name"]) (sc := defScope s_Menu_init) (by decide +kernel)) (fun _ _ _ _ _ => (pg_name (i := 3) sc_Menu_init.nd rfl (Or.inl rfl))) (fun _ _ _ _ _ => pts_nil) (fun _ _ _ _ _ => (pv 3)) (fun _ _ _ _ _ => (pe_callTy (call_tuple_ofK (K := K) rfl) (by rfl) (z_tuple F) (by decide +kernel) (pa_cons (pe_ix (ix_tupK (K := K) rfl) (pe_dget hu (pv 2) (pv 3) (fun _ _ => rfl)) pe_int (fun _ _ => rfl)) pa_nil))))) rfl)
    (pss_cons (ps_fld (pv 0) (pe_lock (pe_dc (own := [("name", 3)]) (tt := tYes) (g := gName 3) rfl sc_Menu_init.nd (pi_keys (pv 2)) (blkOk_by (own := [("name", 3)]) (N := ["self", "things", "weathers", "name"]) (sc := defScope s_Menu_init) (by decide +kernel)) (fun _ _ _ _ _ => (pg_name (i := 3) sc_Menu_init.nd rfl (Or.inl rfl))) (fun _ _ _ _ _ => pts_nil) (fun _ _ _ _ _ => (pv 3)) (fun _ _ _ _ _ => (pe_ix (ix_tupK (K := K) rfl) (pe_dget hu (pv 2) (pv 3) (fun _ _ => rfl)) pe_int (fun _ _ => rfl))))) rfl)
    (pss_one (ps_fld (pv 0) (pe_lock (pe_dc (own := [("name", 3)]) (tt := tYes) (g := gName 3) rfl sc_Menu_init.nd (pi_keys (pv 2)) (blkOk_by (own := [("name", 3)]) (N := ["self", "things", "weathers", "name"]) (sc := defScope s_Menu_init) (by decide +kernel)) (fun _ _ _ _ _ => (pg_name (i := 3) sc_Menu_init.nd rfl (Or.inl rfl))) (fun _ _ _ _ _ => pts_nil) (fun _ _ _ _ _ => (pv 3)) (fun _ _ _ _ _ => (pe_callTy (call_tuple_ofK (K := K) rfl) (by rfl) (z_tuple F) (by decide +kernel) (pa_cons (pe_ix (ix_tupK (K := K) rfl) (pe_dget hu (pv 2) (pv 3) (fun _ _ => rfl)) pe_int (fun _ _ => rfl)) pa_nil))))) rfl)))))))), ?_⟩
    obtain ⟨m, dx, tv, d, b, kvs, rfl, hm, hdx, hd, he, ht, wf, q⟩ := h
    refine ⟨_, rfl, tv, b.things, rfl, ht, wf.t1, wf.t5, wf.tn, wf.td, fun H1 k1 => ?_⟩
    refine ⟨_, rfl, ?_⟩
    refine ⟨_, rfl, _, rfl, d, tv, b, kvs, rfl, k1 _ _ hd, he.same k1, ht.same k1, wf, fun H2 k2 => ?_⟩
    refine ⟨_, rfl, ?_⟩
    refine ⟨_, rfl, ?_⟩
    dsimp only [tNil]
    refine tupOf (ht.same (k1.trans k2)) fun t1 H3 k3 e3 => ?_
    have S3 : Same H H3 := k1.trans (k2.trans k3)
    refine ⟨_, rfl, m, _, dx, _, rfl, S3 _ _ hm, cls_Menu F, no_Menu_things F, (by decide), ?_⟩
    have kp4 : Kp m H (upd H3 m (.ins (He.ga K "Menu") dx (putF "_things" (.ref t1) []))) := (Same.kp S3).trans Kp.put
    have E3 : SqT K (upd H3 m (.ins (He.ga K "Menu") dx (putF "_things" (.ref t1) []))) t1 (b.things.map V.str) := SqT.kp e3 Kp.put (NoSq.ins (S3 _ _ hm))
    generalize g4 : upd H3 m _ = H4 at kp4 E3 ⊢
    have m4 : H4 m = some (.ins (He.ga K "Menu") dx [("_things", .ref t1)]) := by rw [← g4]; exact upd_same
    have nm : ∀ {a o}, H a = some o → (∀ C dx fs, o ≠ .ins C dx fs) → a ≠ m := fun {a o} e n z => by rw [z, hm] at e; cases e; exact n _ _ _ rfl
    have hd4 : H4 d = some (.dK kvs) := kp4 _ _ (nm hd (by intros; simp)) hd
    have he4 : EntsAt K H4 kvs b.ws := he.kp kp4 (NoSq.ins hm)
    refine ⟨_, rfl, d, kvs, rfl, hd4, fun t2 n5 => ?_⟩
    have hk := he.keys
    have ek : (kvs.map fun kv => kV kv.1) = b.names.map V.str := by
      have e := congrArg (List.map kV) hk
      rw [List.map_map, List.map_map] at e
      unfold Bs.names
      rw [List.map_map]
      exact e
    rw [ek]
    generalize g5 : upd H4 t2 _ = H5
    obtain ⟨k5, e5, _⟩ := laid g5 n5
    have E1_5 := SqT.same E3 k5
    have E2_5 : SqT K H5 t2 (b.names.map V.str) := .inl (.inl e5)
    have kp5 := kp4.trans (Same.kp k5)
    refine ⟨_, rfl, m, _, dx, _, rfl, k5 _ _ m4, cls_Menu F, no_Menu_weathers F, (by simp), ?_⟩
    have mm5 : H5 m = some (.ins (He.ga K "Menu") dx [("_things", .ref t1)]) := k5 _ _ m4
    have kp6 : Kp m H (upd H5 m (.ins (He.ga K "Menu") dx (putF "_weathers" (.ref t2) [("_things", .ref t1)]))) := kp5.trans Kp.put
    have E1_6 : SqT K (upd H5 m (.ins (He.ga K "Menu") dx (putF "_weathers" (.ref t2) [("_things", .ref t1)]))) t1 (b.things.map V.str) := SqT.kp E1_5 Kp.put (NoSq.ins mm5)
    have E2_6 : SqT K (upd H5 m (.ins (He.ga K "Menu") dx (putF "_weathers" (.ref t2) [("_things", .ref t1)]))) t2 (b.names.map V.str) := SqT.kp E2_5 Kp.put (NoSq.ins mm5)
    have m6 : (upd H5 m (.ins (He.ga K "Menu") dx (putF "_weathers" (.ref t2) [("_things", .ref t1)]))) m = some (.ins (He.ga K "Menu") dx [("_things", .ref t1), ("_weathers", .ref t2)]) := upd_same
    generalize upd H5 m (.ins (He.ga K "Menu") dx (putF "_weathers" (.ref t2) [("_things", .ref t1)])) = H6 at kp6 E1_6 E2_6 m6 ⊢
    have few : b.ws.length < 1000 := by have := wf.w4; omega
    have hlen : kvs.length = b.ws.length := by simpa using congrArg List.length hk
    have ndk : (kvs.map (·.1)).Nodup := by
      rw [hk]
      have h1 := wf.wd
      unfold Bs.names at h1
      rw [show (b.ws.map fun e => (Sum.inr e.name : Key)) = (b.ws.map Ent.name).map Sum.inr from by rw [List.map_map]; rfl]
      exact List.Pairwise.map _ (fun a b h e => h (Sum.inr.inj e)) h1
    have d_6 : H6 d = some (.dK kvs) := kp6 _ _ (nm hd (by intros; simp)) hd
    refine ⟨d, _, d_6, trivial, fun od => ?_⟩
    have he_6 : EntsAt K (upd H6 d (.frz od (.dK kvs))) kvs b.ws := (he.kp kp6 (NoSq.ins hm)).kp Kp.put (NoSq.dK d_6)
    have lk_6 : (upd H6 d (.frz od (.dK kvs))) d = some (.frz od (.dK kvs)) := upd_same
    refine ⟨_, rfl, d, od, rfl, .inl ⟨kvs, upd_same, fun d1 nD => dc_ents hk wf.wd few lk_6 nD (fun H z e => ∃ a, z = V.ref a ∧ SqT K H a (e.wishes.map V.str)) (fun _ _ _ _ k ⟨_, ea⟩ ⟨a, e, h⟩ => ⟨a, e, SqT.kp h k (NoSq.dK ea)⟩) (fun e hme H5' R k r => ?_) fun H5' k1x k eD pp => ?_⟩⟩
    · obtain ⟨i, hi, ei⟩ := List.mem_iff_getElem.mp hme
      have hi2 : i < kvs.length := by omega
      have eki : kvs[i]? = some kvs[i] := List.getElem?_eq_getElem hi2
      obtain ⟨e2, f1, f2, f3⟩ := Paired.at2 he_6 eki
      have f4 : e2 = e := by
        rw [List.getElem?_eq_getElem hi, ei] at f1
        exact (Option.some.inj f1).symm
      subst f4
      have gv : valV kvs (.inr e2.name) = some kvs[i].2 := valV_at (i := i) ndk (by rw [eki, ← f2])
      obtain ⟨t, w2, l2, ez, ht2, hw, hl2⟩ := f3.same k
      refine ⟨rfl, _, rfl, ?_⟩
      refine ⟨_, rfl, _, rfl, d, _, rfl, .inl ⟨kvs, .inr e2.name, .inr ⟨od, k _ _ lk_6⟩, rfl, gv.symm⟩, t, _, 0, _, ez, rfl, ht2, rfl, ?_⟩
      dsimp only [tNil]
      refine tupOf hw fun a H3 k3 e3 => r _ _ k3 ⟨a, rfl, e3⟩
    refine ⟨k _ _ lk_6, ?_⟩
    have s_6 : Same H6 (upd H5' d (.dK kvs)) := unlock k d_6
    have ned : d1 ≠ d := fun z => by rw [z, lk_6] at nD; cases nD
    have eD2 : (upd H5' d (.dK kvs)) d1 = some (.dK k1x) := by rw [upd_ne ned]; exact eD
    have N_d1 : H d1 = none := by
      rcases hq : H d1 with _ | o
      · rfl
      · have dm : d ≠ m := nm hd (by intros; simp)
        have nm2 : d1 ≠ m := fun z => by rw [z, upd_ne (Ne.symm dm), m6] at nD; cases nD
        have h2 := kp6 _ _ nm2 hq
        rw [upd_ne ned, h2] at nD
        cases nD
    have pp2 : TupsAt K (upd H5' d (.dK kvs)) k1x (b.ws.map fun e => (e.name, e.wishes)) := tups_of (Paired.imp2 (fun _ _ ⟨q, a, e, z⟩ => ⟨q, a, e, SqT.kp z Kp.put (NoSq.fdK (k _ _ lk_6))⟩) pp)
    have mk6 := s_6 _ _ m6
    have kk6 : Kp m H (upd H5' d (.dK kvs)) := kp6.trans (Same.kp s_6)
    have E1_7 := SqT.same E1_6 s_6
    have E2_7 := SqT.same E2_6 s_6
    clear k eD pp ned
    generalize upd H5' d (.dK kvs) = H7 at s_6 eD2 mk6 kk6 E1_7 E2_7 pp2 ⊢
    have D1_7 := eD2
    have P1_7 := pp2
    refine ⟨_, rfl, m, _, dx, _, rfl, mk6, cls_Menu F, no_Menu_wishes F, (by simp), ?_⟩
    have mm7 : H7 m = some (.ins (He.ga K "Menu") dx [("_things", .ref t1), ("_weathers", .ref t2)]) := mk6
    have kp8 : Kp m H (upd H7 m (.ins (He.ga K "Menu") dx (putF "_wishes" (.ref d1) [("_things", .ref t1), ("_weathers", .ref t2)]))) := kk6.trans Kp.put
    have E1_8 : SqT K (upd H7 m (.ins (He.ga K "Menu") dx (putF "_wishes" (.ref d1) [("_things", .ref t1), ("_weathers", .ref t2)]))) t1 (b.things.map V.str) := SqT.kp E1_7 Kp.put (NoSq.ins mm7)
    have E2_8 : SqT K (upd H7 m (.ins (He.ga K "Menu") dx (putF "_wishes" (.ref d1) [("_things", .ref t1), ("_weathers", .ref t2)]))) t2 (b.names.map V.str) := SqT.kp E2_7 Kp.put (NoSq.ins mm7)
    have D1_8 : (upd H7 m (.ins (He.ga K "Menu") dx (putF "_wishes" (.ref d1) [("_things", .ref t1), ("_weathers", .ref t2)]))) d1 = some (.dK k1x) := Kp.put _ _ (ne_of D1_7 mm7 (by intro z; cases z)) D1_7
    have P1_8 : TupsAt K (upd H7 m (.ins (He.ga K "Menu") dx (putF "_wishes" (.ref d1) [("_things", .ref t1), ("_weathers", .ref t2)]))) k1x (b.ws.map fun e => (e.name, e.wishes)) := TupsAt.kp P1_7 Kp.put (NoSq.ins mm7)
    have m8 : (upd H7 m (.ins (He.ga K "Menu") dx (putF "_wishes" (.ref d1) [("_things", .ref t1), ("_weathers", .ref t2)]))) m = some (.ins (He.ga K "Menu") dx [("_things", .ref t1), ("_weathers", .ref t2), ("_wishes", .ref d1)]) := upd_same
    generalize upd H7 m (.ins (He.ga K "Menu") dx (putF "_wishes" (.ref d1) [("_things", .ref t1), ("_weathers", .ref t2)])) = H8 at kp8 E1_8 E2_8 D1_8 P1_8 m8 ⊢
    have d_8 : H8 d = some (.dK kvs) := kp8 _ _ (nm hd (by intros; simp)) hd
    refine ⟨d, _, d_8, trivial, fun od => ?_⟩
    have he_8 : EntsAt K (upd H8 d (.frz od (.dK kvs))) kvs b.ws := (he.kp kp8 (NoSq.ins hm)).kp Kp.put (NoSq.dK d_8)
    have lk_8 : (upd H8 d (.frz od (.dK kvs))) d = some (.frz od (.dK kvs)) := upd_same
    refine ⟨_, rfl, d, od, rfl, .inl ⟨kvs, upd_same, fun d2 nD => dc_ents hk wf.wd few lk_8 nD (fun _ z e => z = .str e.back) (fun _ _ _ _ _ _ h => h) (fun e hme H5' R k r => ?_) fun H5' k2x k eD pp => ?_⟩⟩
    · obtain ⟨i, hi, ei⟩ := List.mem_iff_getElem.mp hme
      have hi2 : i < kvs.length := by omega
      have eki : kvs[i]? = some kvs[i] := List.getElem?_eq_getElem hi2
      obtain ⟨e2, f1, f2, f3⟩ := Paired.at2 he_8 eki
      have f4 : e2 = e := by
        rw [List.getElem?_eq_getElem hi, ei] at f1
        exact (Option.some.inj f1).symm
      subst f4
      have gv : valV kvs (.inr e2.name) = some kvs[i].2 := valV_at (i := i) ndk (by rw [eki, ← f2])
      obtain ⟨t, w2, l2, ez, ht2, hw, hl2⟩ := f3.same k
      refine ⟨rfl, _, rfl, ?_⟩
      refine ⟨_, rfl, _, rfl, d, _, rfl, .inl ⟨kvs, .inr e2.name, .inr ⟨od, k _ _ lk_8⟩, rfl, gv.symm⟩, t, _, 1, _, ez, rfl, ht2, rfl, ?_⟩
      exact r _ _ (Same.refl _) rfl
    refine ⟨k _ _ lk_8, ?_⟩
    have s_8 : Same H8 (upd H5' d (.dK kvs)) := unlock k d_8
    have ned : d2 ≠ d := fun z => by rw [z, lk_8] at nD; cases nD
    have eD2 : (upd H5' d (.dK kvs)) d2 = some (.dK k2x) := by rw [upd_ne ned]; exact eD
    have N_d2 : H d2 = none := by
      rcases hq : H d2 with _ | o
      · rfl
      · have dm : d ≠ m := nm hd (by intros; simp)
        have nm2 : d2 ≠ m := fun z => by rw [z, upd_ne (Ne.symm dm), m8] at nD; cases nD
        have h2 := kp8 _ _ nm2 hq
        rw [upd_ne ned, h2] at nD
        cases nD
    have pp2 : k2x = b.ws.map fun e => (Sum.inr e.name, V.str e.back) := paired_eq pp
    rw [pp2] at eD2
    have mk8 := s_8 _ _ m8
    have kk8 : Kp m H (upd H5' d (.dK kvs)) := kp8.trans (Same.kp s_8)
    have E1_9 := SqT.same E1_8 s_8
    have E2_9 := SqT.same E2_8 s_8
    have D1_9 := s_8 _ _ D1_8
    have P1_9 := TupsAt.same P1_8 s_8
    clear k eD pp ned 
    generalize upd H5' d (.dK kvs) = H9 at s_8 eD2 mk8 kk8 E1_9 E2_9 D1_9 P1_9 ⊢
    have D2_9 := eD2
    refine ⟨_, rfl, m, _, dx, _, rfl, mk8, cls_Menu F, no_Menu_back F, (by simp), ?_⟩
    have mm9 : H9 m = some (.ins (He.ga K "Menu") dx [("_things", .ref t1), ("_weathers", .ref t2), ("_wishes", .ref d1)]) := mk8
    have kp10 : Kp m H (upd H9 m (.ins (He.ga K "Menu") dx (putF "_back" (.ref d2) [("_things", .ref t1), ("_weathers", .ref t2), ("_wishes", .ref d1)]))) := kk8.trans Kp.put
    have E1_10 : SqT K (upd H9 m (.ins (He.ga K "Menu") dx (putF "_back" (.ref d2) [("_things", .ref t1), ("_weathers", .ref t2), ("_wishes", .ref d1)]))) t1 (b.things.map V.str) := SqT.kp E1_9 Kp.put (NoSq.ins mm9)
    have E2_10 : SqT K (upd H9 m (.ins (He.ga K "Menu") dx (putF "_back" (.ref d2) [("_things", .ref t1), ("_weathers", .ref t2), ("_wishes", .ref d1)]))) t2 (b.names.map V.str) := SqT.kp E2_9 Kp.put (NoSq.ins mm9)
    have D1_10 : (upd H9 m (.ins (He.ga K "Menu") dx (putF "_back" (.ref d2) [("_things", .ref t1), ("_weathers", .ref t2), ("_wishes", .ref d1)]))) d1 = some (.dK k1x) := Kp.put _ _ (ne_of D1_9 mm9 (by intro z; cases z)) D1_9
    have P1_10 : TupsAt K (upd H9 m (.ins (He.ga K "Menu") dx (putF "_back" (.ref d2) [("_things", .ref t1), ("_weathers", .ref t2), ("_wishes", .ref d1)]))) k1x (b.ws.map fun e => (e.name, e.wishes)) := TupsAt.kp P1_9 Kp.put (NoSq.ins mm9)
    have D2_10 : (upd H9 m (.ins (He.ga K "Menu") dx (putF "_back" (.ref d2) [("_things", .ref t1), ("_weathers", .ref t2), ("_wishes", .ref d1)]))) d2 = some (.dK (b.ws.map fun e => (Sum.inr e.name, V.str e.back))) := Kp.put _ _ (ne_of D2_9 mm9 (by intro z; cases z)) D2_9
    have m10 : (upd H9 m (.ins (He.ga K "Menu") dx (putF "_back" (.ref d2) [("_things", .ref t1), ("_weathers", .ref t2), ("_wishes", .ref d1)]))) m = some (.ins (He.ga K "Menu") dx [("_things", .ref t1), ("_weathers", .ref t2), ("_wishes", .ref d1), ("_back", .ref d2)]) := upd_same
    generalize upd H9 m (.ins (He.ga K "Menu") dx (putF "_back" (.ref d2) [("_things", .ref t1), ("_weathers", .ref t2), ("_wishes", .ref d1)])) = H10 at kp10 E1_10 E2_10 D1_10 P1_10 D2_10 m10 ⊢
    have d_10 : H10 d = some (.dK kvs) := kp10 _ _ (nm hd (by intros; simp)) hd
    refine ⟨d, _, d_10, trivial, fun od => ?_⟩
    have he_10 : EntsAt K (upd H10 d (.frz od (.dK kvs))) kvs b.ws := (he.kp kp10 (NoSq.ins hm)).kp Kp.put (NoSq.dK d_10)
    have lk_10 : (upd H10 d (.frz od (.dK kvs))) d = some (.frz od (.dK kvs)) := upd_same
    refine ⟨_, rfl, d, od, rfl, .inl ⟨kvs, upd_same, fun d3 nD => dc_ents hk wf.wd few lk_10 nD (fun H z e => ∃ a, z = V.ref a ∧ SqT K H a (e.later.map V.str)) (fun _ _ _ _ k ⟨_, ea⟩ ⟨a, e, h⟩ => ⟨a, e, SqT.kp h k (NoSq.dK ea)⟩) (fun e hme H5' R k r => ?_) fun H5' k3x k eD pp => ?_⟩⟩
    · obtain ⟨i, hi, ei⟩ := List.mem_iff_getElem.mp hme
      have hi2 : i < kvs.length := by omega
      have eki : kvs[i]? = some kvs[i] := List.getElem?_eq_getElem hi2
      obtain ⟨e2, f1, f2, f3⟩ := Paired.at2 he_10 eki
      have f4 : e2 = e := by
        rw [List.getElem?_eq_getElem hi, ei] at f1
        exact (Option.some.inj f1).symm
      subst f4
      have gv : valV kvs (.inr e2.name) = some kvs[i].2 := valV_at (i := i) ndk (by rw [eki, ← f2])
      obtain ⟨t, w2, l2, ez, ht2, hw, hl2⟩ := f3.same k
      refine ⟨rfl, _, rfl, ?_⟩
      refine ⟨_, rfl, _, rfl, d, _, rfl, .inl ⟨kvs, .inr e2.name, .inr ⟨od, k _ _ lk_10⟩, rfl, gv.symm⟩, t, _, 2, _, ez, rfl, ht2, rfl, ?_⟩
      dsimp only [tNil]
      refine tupOf hl2 fun a H3 k3 e3 => r _ _ k3 ⟨a, rfl, e3⟩
    refine ⟨k _ _ lk_10, ?_⟩
    have s_10 : Same H10 (upd H5' d (.dK kvs)) := unlock k d_10
    have ned : d3 ≠ d := fun z => by rw [z, lk_10] at nD; cases nD
    have eD2 : (upd H5' d (.dK kvs)) d3 = some (.dK k3x) := by rw [upd_ne ned]; exact eD
    have N_d3 : H d3 = none := by
      rcases hq : H d3 with _ | o
      · rfl
      · have dm : d ≠ m := nm hd (by intros; simp)
        have nm2 : d3 ≠ m := fun z => by rw [z, upd_ne (Ne.symm dm), m10] at nD; cases nD
        have h2 := kp10 _ _ nm2 hq
        rw [upd_ne ned, h2] at nD
        cases nD
    have pp2 : TupsAt K (upd H5' d (.dK kvs)) k3x (b.ws.map fun e => (e.name, e.later)) := tups_of (Paired.imp2 (fun _ _ ⟨q, a, e, z⟩ => ⟨q, a, e, SqT.kp z Kp.put (NoSq.fdK (k _ _ lk_10))⟩) pp)
    have mk10 := s_10 _ _ m10
    have kk10 : Kp m H (upd H5' d (.dK kvs)) := kp10.trans (Same.kp s_10)
    have E1_11 := SqT.same E1_10 s_10
    have E2_11 := SqT.same E2_10 s_10
    have D1_11 := s_10 _ _ D1_10
    have P1_11 := TupsAt.same P1_10 s_10
    have D2_11 := s_10 _ _ D2_10
    clear k eD pp ned
    generalize upd H5' d (.dK kvs) = H11 at s_10 eD2 mk10 kk10 E1_11 E2_11 D1_11 P1_11 D2_11 pp2 ⊢
    have D3_11 := eD2
    have P3_11 := pp2
    refine ⟨_, rfl, m, _, dx, _, rfl, mk10, cls_Menu F, no_Menu_later F, (by simp), ?_⟩
    have mm11 : H11 m = some (.ins (He.ga K "Menu") dx [("_things", .ref t1), ("_weathers", .ref t2), ("_wishes", .ref d1), ("_back", .ref d2)]) := mk10
    have kp12 : Kp m H (upd H11 m (.ins (He.ga K "Menu") dx (putF "_later" (.ref d3) [("_things", .ref t1), ("_weathers", .ref t2), ("_wishes", .ref d1), ("_back", .ref d2)]))) := kk10.trans Kp.put
    have E1_12 : SqT K (upd H11 m (.ins (He.ga K "Menu") dx (putF "_later" (.ref d3) [("_things", .ref t1), ("_weathers", .ref t2), ("_wishes", .ref d1), ("_back", .ref d2)]))) t1 (b.things.map V.str) := SqT.kp E1_11 Kp.put (NoSq.ins mm11)
    have E2_12 : SqT K (upd H11 m (.ins (He.ga K "Menu") dx (putF "_later" (.ref d3) [("_things", .ref t1), ("_weathers", .ref t2), ("_wishes", .ref d1), ("_back", .ref d2)]))) t2 (b.names.map V.str) := SqT.kp E2_11 Kp.put (NoSq.ins mm11)
    have D1_12 : (upd H11 m (.ins (He.ga K "Menu") dx (putF "_later" (.ref d3) [("_things", .ref t1), ("_weathers", .ref t2), ("_wishes", .ref d1), ("_back", .ref d2)]))) d1 = some (.dK k1x) := Kp.put _ _ (ne_of D1_11 mm11 (by intro z; cases z)) D1_11
    have P1_12 : TupsAt K (upd H11 m (.ins (He.ga K "Menu") dx (putF "_later" (.ref d3) [("_things", .ref t1), ("_weathers", .ref t2), ("_wishes", .ref d1), ("_back", .ref d2)]))) k1x (b.ws.map fun e => (e.name, e.wishes)) := TupsAt.kp P1_11 Kp.put (NoSq.ins mm11)
    have D2_12 : (upd H11 m (.ins (He.ga K "Menu") dx (putF "_later" (.ref d3) [("_things", .ref t1), ("_weathers", .ref t2), ("_wishes", .ref d1), ("_back", .ref d2)]))) d2 = some (.dK (b.ws.map fun e => (Sum.inr e.name, V.str e.back))) := Kp.put _ _ (ne_of D2_11 mm11 (by intro z; cases z)) D2_11
    have D3_12 : (upd H11 m (.ins (He.ga K "Menu") dx (putF "_later" (.ref d3) [("_things", .ref t1), ("_weathers", .ref t2), ("_wishes", .ref d1), ("_back", .ref d2)]))) d3 = some (.dK k3x) := Kp.put _ _ (ne_of D3_11 mm11 (by intro z; cases z)) D3_11
    have P3_12 : TupsAt K (upd H11 m (.ins (He.ga K "Menu") dx (putF "_later" (.ref d3) [("_things", .ref t1), ("_weathers", .ref t2), ("_wishes", .ref d1), ("_back", .ref d2)]))) k3x (b.ws.map fun e => (e.name, e.later)) := TupsAt.kp P3_11 Kp.put (NoSq.ins mm11)
    have m12 : (upd H11 m (.ins (He.ga K "Menu") dx (putF "_later" (.ref d3) [("_things", .ref t1), ("_weathers", .ref t2), ("_wishes", .ref d1), ("_back", .ref d2)]))) m = some (.ins (He.ga K "Menu") dx [("_things", .ref t1), ("_weathers", .ref t2), ("_wishes", .ref d1), ("_back", .ref d2), ("_later", .ref d3)]) := upd_same
    generalize upd H11 m (.ins (He.ga K "Menu") dx (putF "_later" (.ref d3) [("_things", .ref t1), ("_weathers", .ref t2), ("_wishes", .ref d1), ("_back", .ref d2)])) = H12 at kp12 E1_12 E2_12 D1_12 P1_12 D2_12 D3_12 P3_12 m12 ⊢
    have dx12 := kp12 _ _ (nm hdx (by intros; simp)) hdx
    exact q _ kp12 ⟨dx, t1, t2, d1, d2, d3, k1x, k3x, m12, dx12, E1_12, E2_12, D1_12, P1_12, D2_12, D3_12, P3_12, N_d1, N_d2, N_d3⟩

end
end K02

namespace K02
open PySem PySem.Spec PyProof.Rows L2 Gx
section
variable {P : Program} {w : World} {K : PySem.W.Frag} {mg : Str → Option Value} {base : Heap}
theorem cm_Menu_check_weather (F : Facts K mg) : CaM P w K mg base (L2.CX P w) 3 (He.ga K "Menu") "_check_weather" (spCheck K) := by
  obtain ⟨fd, D⟩ := fun_Menu_check_weather F
  refine ⟨_, fd, ["self", "value"], D.ok sc_Menu_check_weather (fun vs H Q E h => ?_) (fun cdv A outer s H vs Q E hr h => ?_), D.bindsN fun _ _ _ _ _ _ us hl => match us, hl with | [_, _], _ => rfl, me_Menu_check_weather F, cls_Menu F⟩
  · obtain ⟨_, _, _, rfl, _⟩ := h
    rfl
  · have hu := hu_of hr
    have hr2 : Room 2 _ := hr.mono (by decide)
    refine ⟨_, (pss_one (ps_if (pt_cmpR (op_notInT (Room.u1 hr)) (pv 1) (pe_fld (pv 0) rfl) (by rfl)) (pss_one (ps_raise rfl (takes_of rfl rfl rfl rfl) (pmk_exV (ex_BadWeather F) hr2 rfl (pa_cons (pv 1) pa_nil)))) pss_nil)), ?_⟩
    obtain ⟨m, b, x, rfl, hM, h⟩ := h
    obtain ⟨dx, t1, t2, d1, d2, d3, k1, k3, hm, hdx, h1, h2, h3, h4, h5, h6, h7⟩ := hM
    refine ⟨_, rfl, _, rfl, m, _, dx, _, _, rfl, hm, cls_Menu F, no_Menu_weathers F, rfl, ?_⟩
    have raise : BadX K H b x → OutW K H x E → ∀ (Z : Prop), True := fun _ _ _ => trivial
    rcases h with ⟨z, rfl, hz, q⟩ | ⟨bad, out⟩
    · refine ⟨t2, b.names, rfl, h2, .inl ⟨z, rfl, ?_⟩⟩
      rw [decide_eq_true hz]
      exact ⟨_, rfl, q⟩
    · have c : (∃ z, x = .str z ∧ z ∉ b.names) ∨ NoStr K H x := bad.symm
      have tail : ∀ (a : Addr), H a = none → ∀ d, upd H a (exo a (He.ga K "BadWeather") none) d = none → d ≠ a → H d = none := fun a na d nd ne => by rwa [upd_ne ne] at nd
      rcases c with ⟨z, rfl, hz⟩ | ns
      · refine ⟨t2, b.names, rfl, h2, .inl ⟨z, rfl, ?_⟩⟩
        rw [decide_eq_false hz]
        refine ⟨_, rfl, _, rfl, (by simp), fun a na => ⟨a, _, rfl, upd_same, fun d nd ne => ⟨rfl, d, _, upd_same, ?_, tail a na d nd ne, raised na (tail a na d nd ne) ne fun H' k e => out d H' (tail a na d nd ne) k e⟩⟩⟩
        rw [upd_ne ne]
        exact upd_same
      · refine ⟨t2, b.names, rfl, h2, .inr ⟨ns, ?_⟩⟩
        refine ⟨_, rfl, _, rfl, (by simp), fun a na => ⟨a, _, rfl, upd_same, fun d nd ne => ⟨rfl, d, _, upd_same, ?_, tail a na d nd ne, raised na (tail a na d nd ne) ne fun H' k e => out d H' (tail a na d nd ne) k e⟩⟩⟩
        rw [upd_ne ne]
        exact upd_same

theorem cm_Menu_wishes (F : Facts K mg) : CaM P w K mg base (L2.CX P w) 4 (He.ga K "Menu") "wishes" (spWishes K) := by
  obtain ⟨fd, D⟩ := fun_Menu_wishes F
  refine ⟨_, fd, ["self", "weather"], D.ok sc_Menu_wishes (fun vs H Q E h => ?_) (fun cdv A outer s H vs Q E hr h => ?_), D.bindsN fun _ _ _ _ _ _ us hl => match us, hl with | [_, _], _ => rfl, me_Menu_wishes F, cls_Menu F⟩
  · obtain ⟨_, _, _, rfl, _⟩ := h
    rfl
  · have hu := hu_of hr
    skip
    refine ⟨_, (pss_cons (ps_expr (pe_cm (cm_Menu_check_weather F) (hr.mono (by decide)) (passes_call (takes_of rfl rfl rfl rfl) fun _ _ _ _ h => h) (pv 0) (pa_cons (pv 1) pa_nil)))
    (pss_one (ps_ret (pe_callTy call_list_of (by rfl) (z_list F) (by decide +kernel) (pa_cons (pe_dget hu (pe_fld (pv 0) rfl) (pv 1) (fun _ _ => rfl)) pa_nil))))), ?_⟩
    obtain ⟨m, b, x, rfl, hM, nd, h⟩ := h
    have hM2 := hM
    obtain ⟨dx, t1, t2, d1, d2, d3, k1, k3, hm, hdx, h1, h2, h3, h4, h5, h6, h7⟩ := hM
    refine ⟨_, rfl, m, dx, _, rfl, hm, rfl, _, rfl, m, b, x, rfl, hM2, ?_⟩
    rcases h with ⟨e, he, rfl, q⟩ | ⟨bad, out⟩
    · refine .inl ⟨e.name, rfl, List.mem_map.mpr ⟨e, he, rfl⟩, ?_⟩
      obtain ⟨a, gv, ha⟩ := h4.get (f := Ent.wishes) nd he
      refine ⟨_, rfl, m, _, dx, _, _, rfl, hm, cls_Menu F, no_Menu_wishes F, rfl, _, rfl, d1, _, rfl, .inl ⟨_, .inr e.name, .inl h3, rfl, gv.symm⟩, ?_⟩
      exact ⟨a, _, rfl, .inr ha, q⟩
    · exact .inr ⟨bad, out⟩

theorem cm_Menu_back (F : Facts K mg) : CaM P w K mg base (L2.CX P w) 4 (He.ga K "Menu") "back" (spBack K) := by
  obtain ⟨fd, D⟩ := fun_Menu_back F
  refine ⟨_, fd, ["self", "weather"], D.ok sc_Menu_back (fun vs H Q E h => ?_) (fun cdv A outer s H vs Q E hr h => ?_), D.bindsN fun _ _ _ _ _ _ us hl => match us, hl with | [_, _], _ => rfl, me_Menu_back F, cls_Menu F⟩
  · obtain ⟨_, _, _, rfl, _⟩ := h
    rfl
  · have hu := hu_of hr
    skip
    refine ⟨_, (pss_cons (ps_expr (pe_cm (cm_Menu_check_weather F) (hr.mono (by decide)) (passes_call (takes_of rfl rfl rfl rfl) fun _ _ _ _ h => h) (pv 0) (pa_cons (pv 1) pa_nil)))
    (pss_one (ps_ret (pe_dget hu (pe_fld (pv 0) rfl) (pv 1) (fun _ _ => rfl))))), ?_⟩
    obtain ⟨m, b, x, rfl, hM, nd, h⟩ := h
    have hM2 := hM
    obtain ⟨dx, t1, t2, d1, d2, d3, k1, k3, hm, hdx, h1, h2, h3, h4, h5, h6, h7⟩ := hM
    refine ⟨_, rfl, m, dx, _, rfl, hm, rfl, _, rfl, m, b, x, rfl, hM2, ?_⟩
    rcases h with ⟨e, he, rfl, q⟩ | ⟨bad, out⟩
    · refine .inl ⟨e.name, rfl, List.mem_map.mpr ⟨e, he, rfl⟩, ?_⟩
      have gv := back_get nd he
      refine ⟨_, rfl, m, _, dx, _, _, rfl, hm, cls_Menu F, no_Menu_back F, rfl, _, rfl, d2, _, rfl, .inl ⟨_, .inr e.name, .inl h5, rfl, gv.symm⟩, ?_⟩
      exact q
    · exact .inr ⟨bad, out⟩

theorem cm_Menu_later (F : Facts K mg) : CaM P w K mg base (L2.CX P w) 4 (He.ga K "Menu") "later" (spLater K) := by
  obtain ⟨fd, D⟩ := fun_Menu_later F
  refine ⟨_, fd, ["self", "weather"], D.ok sc_Menu_later (fun vs H Q E h => ?_) (fun cdv A outer s H vs Q E hr h => ?_), D.bindsN fun _ _ _ _ _ _ us hl => match us, hl with | [_, _], _ => rfl, me_Menu_later F, cls_Menu F⟩
  · obtain ⟨_, _, _, rfl, _⟩ := h
    rfl
  · have hu := hu_of hr
    skip
    refine ⟨_, (pss_cons (ps_expr (pe_cm (cm_Menu_check_weather F) (hr.mono (by decide)) (passes_call (takes_of rfl rfl rfl rfl) fun _ _ _ _ h => h) (pv 0) (pa_cons (pv 1) pa_nil)))
    (pss_one (ps_ret (pe_callTy call_list_of (by rfl) (z_list F) (by decide +kernel) (pa_cons (pe_dget hu (pe_fld (pv 0) rfl) (pv 1) (fun _ _ => rfl)) pa_nil))))), ?_⟩
    obtain ⟨m, b, x, rfl, hM, nd, h⟩ := h
    have hM2 := hM
    obtain ⟨dx, t1, t2, d1, d2, d3, k1, k3, hm, hdx, h1, h2, h3, h4, h5, h6, h7⟩ := hM
    refine ⟨_, rfl, m, dx, _, rfl, hm, rfl, _, rfl, m, b, x, rfl, hM2, ?_⟩
    rcases h with ⟨e, he, rfl, q⟩ | ⟨bad, out⟩
    · refine .inl ⟨e.name, rfl, List.mem_map.mpr ⟨e, he, rfl⟩, ?_⟩
      obtain ⟨a, gv, ha⟩ := h7.get (f := Ent.later) nd he
      refine ⟨_, rfl, m, _, dx, _, _, rfl, hm, cls_Menu F, no_Menu_later F, rfl, _, rfl, d3, _, rfl, .inl ⟨_, .inr e.name, .inl h6, rfl, gv.symm⟩, ?_⟩
      exact ⟨a, _, rfl, .inr ha, q⟩
    · exact .inr ⟨bad, out⟩

end
end K02

namespace K02
open PySem PySem.Spec PyProof.Rows L2 Gx
section
variable {P : Program} {w : World} {K : PySem.W.Frag} {mg : Str → Option Value} {base : Heap}
theorem cm_Menu_eq (F : Facts K mg) : CaM P w K mg base (CX0) 1 (He.ga K "Menu") "__eq__" (spEqM K) := by
  obtain ⟨fd, D⟩ := fun_Menu_eq F
  refine ⟨_, fd, ["self", "other"], D.ok sc_Menu_eq (fun vs H Q E h => ?_) (fun cdv A outer s H vs Q E hr h => ?_), D.bindsN fun _ _ _ _ _ _ us hl => match us, hl with | [_, _], _ => rfl, me_Menu_eq F, cls_Menu F⟩
  · obtain ⟨_, _, _, rfl, _⟩ := h
    rfl
  · have hu := hu_of hr
    skip
    refine ⟨_, PSs.nox (pss_one (ps_ret (pe_and (pe_callB call_isi (by rfl) (z_isinstance F) (by decide +kernel) (pa_cons (pv 1) (pa_cons (pe_glob (v := .ref (He.ga K "Menu")) rfl (g_Menu F) rfl) pa_nil))) (pe_and (pe_cmpR (op_eqD hr.units) (pe_fld (pv 0) rfl) (pe_fld (pv 1) rfl) (nomark _)) (pe_and (pe_cmpR (op_eqD hr.units) (pe_fld (pv 0) rfl) (pe_fld (pv 1) rfl) (nomark _)) (pe_and (pe_cmpR (op_eqDD (Room.u65 hr)) (pe_fld (pv 0) rfl) (pe_fld (pv 1) rfl) (nomark _)) (pe_and (pe_cmpR (op_eqDD (Room.u65 hr)) (pe_fld (pv 0) rfl) (pe_fld (pv 1) rfl) (nomark _)) (pe_one (pe_cmpR (op_eqDD (Room.u65 hr)) (pe_fld (pv 0) rfl) (pe_fld (pv 1) rfl) (nomark _)))))))))), ?_⟩
    obtain ⟨m, y, b, rfl, hM, h⟩ := h
    rcases h with ⟨m2, c, rfl, gM, wf, wg, q⟩ | ⟨⟨T, ty, hT⟩, q⟩
    · obtain ⟨dx, t1, t2, d1, d2, d3, k1, k3, hm, hdx, h1, h2, h3, h4, h5, h6, h7⟩ := hM
      obtain ⟨ex, u1, u2, e1, e2, e3, j1, j3, gm, gdx, g1, g2, g3, g4, g5, g6, g7⟩ := gM
      have c1 : decide (b.things = c.things) = false → decide (b = c) = false := fun e => by
        rw [← eqB_eq, eqB, e]
        rfl
      have c2 : decide (b.things = c.things) = true → decide (b.names = c.names) = false → decide (b = c) = false := fun e f => by
        rw [← eqB_eq, eqB, e, f]
        rfl
      have c3 : decide (b.things = c.things) = true → decide (b.names = c.names) = true → decide (b.ws.map Ent.wishes = c.ws.map Ent.wishes) = false → decide (b = c) = false := fun e f i => by
        rw [← eqB_eq, eqB, e, f, i]
        rfl
      have c4 : decide (b.things = c.things) = true → decide (b.names = c.names) = true → decide (b.ws.map Ent.wishes = c.ws.map Ent.wishes) = true → decide (b.ws.map Ent.back = c.ws.map Ent.back) = false → decide (b = c) = false := fun e f i j => by
        rw [← eqB_eq, eqB, e, f, i, j]
        rfl
      have c5 : decide (b.things = c.things) = true → decide (b.names = c.names) = true → decide (b.ws.map Ent.wishes = c.ws.map Ent.wishes) = true → decide (b.ws.map Ent.back = c.ws.map Ent.back) = true → decide (b = c) = decide (b.ws.map Ent.later = c.ws.map Ent.later) := fun e f i j => by
        rw [← eqB_eq, eqB, e, f, i, j]
        rfl
      refine ⟨_, rfl, _, .ref (He.ga K "Menu"), _, _, true, rfl, .own _, (menuI F).ty (cls_Menu F) gm, (menuI F).kit, ?_⟩
      refine ⟨_, rfl, ?_⟩
      refine ⟨_, rfl, m, _, dx, _, _, rfl, hm, cls_Menu F, no_Menu_things F, rfl, _, rfl, m2, _, ex, _, _, rfl, gm, cls_Menu F, no_Menu_things F, rfl, _, _, dp_t h1, dp_t g1, shape_t wf.okT, shape_t wg.okT, ?_⟩
      rw [eqv_t]
      refine ⟨_, rfl, ?_⟩
      cases z1 : decide (b.things = c.things) with
      | false =>
        rw [c1 z1] at q
        exact q
      | true =>
      refine ⟨_, rfl, m, _, dx, _, _, rfl, hm, cls_Menu F, no_Menu_weathers F, rfl, _, rfl, m2, _, ex, _, _, rfl, gm, cls_Menu F, no_Menu_weathers F, rfl, _, _, dp_t h2, dp_t g2, shape_t wf.okN, shape_t wg.okN, ?_⟩
      rw [eqv_t]
      refine ⟨_, rfl, ?_⟩
      cases z2 : decide (b.names = c.names) with
      | false =>
        rw [c2 z1 z2] at q
        exact q
      | true =>
      have nn : b.names = c.names := of_decide_eq_true z2
      have kw : ∀ {f f2 : Ent → List Str} {x y : List (Key × V)}, TupsAt K H x (b.ws.map fun e => (e.name, f e)) → TupsAt K H y (c.ws.map fun e => (e.name, f2 e)) → x.map (·.1) = y.map (·.1) ∧ (y.map (·.1)).Nodup := fun {f f2 x y} h k => by
        have p1 : (b.ws.map fun e => (e.name, f e)).map (·.1) = b.names := by rw [List.map_map]; rfl
        have p2 : (c.ws.map fun e => (e.name, f2 e)).map (·.1) = c.names := by rw [List.map_map]; rfl
        rw [h.keys, k.keys, p1, p2, nn]
        exact ⟨rfl, nodup_inr wg.wd⟩
      have dw : ∀ {d : Bs} (f : Ent → List Str), (d.ws.map fun e => (e.name, f e)).map (fun p => dT p.2) = (d.ws.map f).map dT := fun {d} f => by rw [List.map_map, List.map_map]; rfl
      have sh : ∀ {d : Bs} (f : Ent → List Str), (∀ e ∈ d.ws, ∀ x ∈ f e, okS x) → ∀ z ∈ (d.ws.map f).map dT, SeqAt.shaped z = true := fun {d} f h z hz => by
        obtain ⟨l, hl, rfl⟩ := List.mem_map.mp hz
        obtain ⟨e, he, rfl⟩ := List.mem_map.mp hl
        exact shape_t (h e he)
      have kk := kw (f := Ent.wishes) (f2 := Ent.wishes) h4 g4
      have w1 := h4.dp
      have w2 := g4.dp
      rw [dw Ent.wishes] at w1 w2
      refine ⟨_, rfl, m, _, dx, _, _, rfl, hm, cls_Menu F, no_Menu_wishes F, rfl, _, rfl, m2, _, ex, _, _, rfl, gm, cls_Menu F, no_Menu_wishes F, rfl, d1, e1, k1, j1, _, _, rfl, rfl, h3, g3, kk.1, kk.2, w1, w2, sh _ (fun e he => (wf.okW he).1), sh _ (fun e he => (wg.okW he).1), ?_⟩
      rw [eqv_ts]
      refine ⟨_, rfl, ?_⟩
      cases z3 : decide (b.ws.map Ent.wishes = c.ws.map Ent.wishes) with
      | false =>
        rw [c3 z1 z2 z3] at q
        exact q
      | true =>
      have bk : ∀ d : Bs, (d.ws.map fun e => ((Sum.inr e.name : Key), V.str e.back)).map (·.2) = (d.ws.map Ent.back).map V.str := fun d => by rw [List.map_map, List.map_map]; rfl
      have bk1 : ∀ d : Bs, (d.ws.map fun e => ((Sum.inr e.name : Key), V.str e.back)).map (·.1) = d.names.map Sum.inr := fun d => by unfold Bs.names; rw [List.map_map, List.map_map]; rfl
      have bd : ∀ d : Bs, DpAll K H ((d.ws.map fun e => ((Sum.inr e.name : Key), V.str e.back)).map (·.2)) ((d.ws.map Ent.back).map .str) := fun d => by rw [bk d]; exact dp_strs _
      have bs : ∀ {d : Bs}, WF d → ∀ z ∈ (d.ws.map Ent.back).map PyData.str, SeqAt.shaped z = true := fun {d} wd z hz => by
        obtain ⟨l, hl, rfl⟩ := List.mem_map.mp hz
        obtain ⟨e, he, rfl⟩ := List.mem_map.mp hl
        exact shape_s (wd.okW he).2.1
      refine ⟨_, rfl, m, _, dx, _, _, rfl, hm, cls_Menu F, no_Menu_back F, rfl, _, rfl, m2, _, ex, _, _, rfl, gm, cls_Menu F, no_Menu_back F, rfl, d2, e2, _, _, _, _, rfl, rfl, h5, g5, by rw [bk1, bk1, nn], by rw [bk1]; exact nodup_inr wg.wd, bd b, bd c, bs wf, bs wg, ?_⟩
      rw [eqv_strs]
      refine ⟨_, rfl, ?_⟩
      cases z4 : decide (b.ws.map Ent.back = c.ws.map Ent.back) with
      | false =>
        rw [c4 z1 z2 z3 z4] at q
        exact q
      | true =>
      rw [c5 z1 z2 z3 z4] at q
      have kl := kw (f := Ent.later) (f2 := Ent.later) h7 g7
      have v1 := h7.dp
      have v2 := g7.dp
      rw [dw Ent.later] at v1 v2
      refine ⟨_, rfl, m, _, dx, _, _, rfl, hm, cls_Menu F, no_Menu_later F, rfl, _, rfl, m2, _, ex, _, _, rfl, gm, cls_Menu F, no_Menu_later F, rfl, d3, e3, k3, j3, _, _, rfl, rfl, h6, g6, kl.1, kl.2, v1, v2, sh _ (fun e he => (wf.okW he).2.2), sh _ (fun e he => (wg.okW he).2.2), ?_⟩
      rw [eqv_ts]
      exact q
    · refine ⟨_, rfl, _, .ref (He.ga K "Menu"), _, _, false, rfl, .own _, ty, (menuTy F hT).1, ?_⟩
      exact ⟨_, rfl, q⟩

end
end K02

namespace K02
open PySem PySem.Spec PyProof.Rows L2 Gx
section
variable {P : Program} {w : World} {K : PySem.W.Frag} {mg : Str → Option Value} {base : Heap}

theorem seqIx {r : Int} {n : Nat} (h0 : 0 ≤ r) (h1 : r < n) : seqIndex? r n = some r.toNat := by
  unfold seqIndex?
  simp only [show ¬ r < 0 from by omega, if_false]
  rw [if_pos]
  simp only [Bool.and_eq_true, decide_eq_true_eq]
  exact ⟨h0, h1⟩
theorem erase_mapF {α β : Type} (f : α → β) : ∀ (xs : List α) (i : Nat), (xs.map f).eraseIdx i = (xs.eraseIdx i).map f
  | [], i => by simp
  | a :: xs, 0 => by simp
  | a :: xs, i + 1 => by simp [erase_mapF f xs i]
theorem erase_map (xs : List Str) (i : Nat) : (xs.map V.str).eraseIdx i = (xs.eraseIdx i).map V.str := erase_mapF _ xs i
theorem perm_erase {α : Type} : ∀ {xs : List α} {i : Nat} {x : α}, xs[i]? = some x → xs.Perm (x :: xs.eraseIdx i)
  | [], i, x, h => by simp at h
  | a :: xs, 0, x, h => by
    simp at h
    subst h
    simp
  | a :: xs, i + 1, x, h => by
    simp only [List.getElem?_cons_succ] at h
    rw [List.eraseIdx_cons_succ]
    exact (List.Perm.cons a (perm_erase h)).trans (List.Perm.swap x a _)
theorem ca_law_draw (F : Facts K mg) : Ca P w K mg base CX0 1 "_law_draw" (spDraw) := by
  obtain ⟨fd, D⟩ := fun_law_draw F
  refine ⟨_, fd, ["source", "span"], D.ok sc_law_draw (fun vs H Q E h => ?_) (fun cdv A outer s H vs Q E hr h => ?_), D.bindsN fun _ _ _ _ _ _ us hl => match us, hl with | [_, _], _ => rfl, g__law_draw F, D.kp⟩
  · obtain ⟨_, _, rfl, _⟩ := h
    rfl
  · have hu := hu_of hr
    skip
    refine ⟨_, PSs.nox (pss_cons (ps_if (pt_cmpR op_ge (pe_ix (ix_listK (K := K) rfl) (pv 0) pe_int (fun _ _ => rfl)) (pv 1) (nomark _)) (pss_cons (ps_set (i := 2) sc_law_draw.nd rfl (Or.inl rfl) (pe_op op_mod (pe_callTy call_int1 (by rfl) (z_int F) (by decide +kernel) (pa_cons (pe_ix (ix_listK (K := K) rfl) (pv 0) pe_int (fun _ _ => rfl)) pa_nil)) (pv 1)))
    (pss_cons (ps_asg (pe_op op_fdiv (pe_ix (ix_listK (K := K) rfl) (pv 0) pe_int (fun _ _ => rfl)) (pv 1)) (pg_sub (pv 0) pe_int set_list))
    (pss_one (ps_ret (pv 2))))) pss_nil)
    (pss_cons (ps_asg (pe_op op_mod (pe_callTy call_int1 (by rfl) (z_int F) (by decide +kernel) (pa_cons (pe_op op_add (pe_op op_mul (pe_ix (ix_listK (K := K) rfl) (pv 0) pe_int (fun _ _ => rfl)) pe_int) pe_int) pa_nil)) pe_int) (pg_sub (pv 0) pe_int set_list))
    (pss_one (ps_ret (pe_op op_mod (pe_callTy call_int1 (by rfl) (z_int F) (by decide +kernel) (pa_cons (pe_op op_fdiv (pe_op op_mod (pe_callTy call_int1 (by rfl) (z_int F) (by decide +kernel) (pa_cons (pe_op op_powW (pe_callTy call_int1 (by rfl) (z_int F) (by decide +kernel) (pa_cons (pe_ix (ix_listK (K := K) rfl) (pv 0) pe_int (fun _ _ => rfl)) pa_nil)) pe_int) pa_nil)) pe_int) pe_int) pa_nil)) (pv 1)))))), ?_⟩
    obtain ⟨p, k, rfl, ⟨x, y, hp, hx, hy, hy2⟩, k0, k1, q⟩ := h
    refine ⟨_, rfl, p, _, 0, .int x, rfl, rfl, SqL.of hp, rfl, _, rfl, x, k, rfl, rfl, _, rfl, ?_⟩
    refine ite2 (fun c => ?_) (fun c => ?_)
    · refine ⟨_, rfl, p, _, 0, .int x, rfl, rfl, SqL.of hp, rfl, .inl ⟨x, rfl, ?_⟩⟩
      refine ⟨_, rfl, x, k, rfl, rfl, k0, ?_⟩
      refine ⟨_, rfl, p, _, 0, .int x, rfl, rfl, SqL.of hp, rfl, _, rfl, x, k, rfl, rfl, ⟨k0, k1⟩, ?_⟩
      refine ⟨_, rfl, p, _, 0, 0, rfl, rfl, hp, rfl, ?_⟩
      exact ⟨_, rfl, q _ _ (Int.emod_nonneg _ (by omega)) (Int.emod_lt_of_pos _ k0) ⟨_, y, rfl, Int.ediv_nonneg hx (by omega), hy, hy2⟩⟩
    · have z0 := Int.emod_nonneg (y * 48271 + 7129) (by decide : (2147483647 : Int) ≠ 0)
      have z1 := Int.emod_lt_of_pos (y * 48271 + 7129) (by decide : (0 : Int) < 2147483647)
      refine ⟨_, rfl, p, _, 1, .int y, rfl, rfl, SqL.of hp, rfl, y, 48271, rfl, rfl, .inl ⟨by omega, by omega⟩, _, 7129, rfl, rfl, .inl ⟨_, rfl, _, 2147483647, rfl, rfl, by dsimp only; omega, ?_⟩⟩
      refine ⟨_, rfl, p, _, 1, 1, rfl, rfl, hp, rfl, ?_⟩
      refine ⟨_, rfl, p, _, 1, .int _, rfl, rfl, SqL.of upd_same, rfl, .inl ⟨_, rfl, _, 5, rfl, rfl, ⟨by decide, ?_⟩, .inl ⟨_, rfl, _, 1000000007, rfl, rfl, by dsimp only; omega, _, 31, rfl, rfl, ⟨by decide, by decide⟩, .inl ⟨_, rfl, _, rfl, _, k, rfl, rfl, k0, ?_⟩⟩⟩⟩
      · have b := bits_of_lt (a := (y * 48271 + 7129) % 2147483647) (k := 31) (by omega)
        omega
      · exact q _ _ (Int.emod_nonneg _ (by omega)) (Int.emod_lt_of_pos _ k0) ⟨x, _, rfl, hx, z0, by omega⟩

theorem ca_law_source (F : Facts K mg) : Ca P w K mg base CX0 1 "_law_source" (spSource K) := by
  obtain ⟨fd, D⟩ := fun_law_source F
  refine ⟨_, fd, ["script", "start"], D.ok sc_law_source (fun vs H Q E h => ?_) (fun cdv A outer s H vs Q E hr h => ?_), D.bindsN fun _ _ _ _ _ _ us hl => match us, hl with | [_, _], _ => rfl, g__law_source F, D.kp⟩
  · obtain ⟨_, _, _, rfl, _⟩ := h
    rfl
  · have hu := hu_of hr
    skip
    refine ⟨_, PSs.nox (pss_cons (ps_set (i := 2) sc_law_source.nd rfl (Or.inl rfl) (pe_op op_add pe_int (pv 1)))
    (pss_cons (ps_for PassesOwn.never rfl (pi_list (pv 0)) (pg_name (i := 3) sc_law_source.nd rfl (Or.inl rfl))
      (pss_one (ps_set (i := 2) sc_law_source.nd rfl (Or.inl rfl) (pe_op op_add (pe_op op_mod (pe_callTy call_int1 (by rfl) (z_int F) (by decide +kernel) (pa_cons (pe_op op_powW (pe_callTy call_int1 (by rfl) (z_int F) (by decide +kernel) (pa_cons (pe_op op_add (pe_op op_mul (pv 2) pe_int) (pe_callTy call_int1 (by rfl) (z_int F) (by decide +kernel) (pa_cons (pv 3) pa_nil))) pa_nil)) pe_int) pa_nil)) pe_int) pe_int))))
    (pss_cons (ps_set (i := 4) sc_law_source.nd rfl (Or.inl rfl) pe_int)
    (pss_cons (ps_if (PW.pt (pw_and (pt_cmpR op_lt (pv 1) (pe_callB call_len (by rfl) (z_len F) boot_len (pa_cons (pv 0) pa_nil)) (nomark _)) (pw_and1 (pt_cmpR op_ge (pe_ix (ix_listK (K := K) rfl) (pv 0) (pv 1) (fun _ _ => rfl)) (pe_op op_powW pe_int pe_int) (nomark _))))) (pss_one (ps_set (i := 4) sc_law_source.nd rfl (Or.inl rfl) (pe_op op_sub (pe_ix (ix_listK (K := K) rfl) (pv 0) (pv 1) (fun _ _ => rfl)) (pe_op op_powW pe_int pe_int)))) pss_nil)
    (pss_one (ps_ret (pe_lst (pa_cons (pv 4) (pa_cons (pv 2) pa_nil))))))))), ?_⟩
    obtain ⟨a, ns, st, rfl, hS, hl, hb, s0, s1, q⟩ := h
    refine ⟨_, rfl, 83, st, rfl, rfl, ?_⟩
    refine ⟨_, rfl, a, rfl, ⟨_, hS⟩, ?_⟩
    refine for_list (K := K) (xs := ns.map V.int) (fun i σ H' => ∃ (m : Int) (c : Option V), 0 ≤ m ∧ m < 2147483648 ∧ H' = H ∧ σ = [some (.ref a), some (.int st), some (.int m), c, none]) ⟨_, none, by omega, by omega, rfl, rfl⟩ (fun i σ H' _ p => ?_) (fun i x σ H' hx p => ?_) (fun σ H' p => ?_)
    · obtain ⟨m, c, _, _, rfl, _⟩ := p
      exact hS
    · obtain ⟨m, c, m0, m1, rfl, rfl⟩ := p
      rw [List.getElem?_map] at hx
      obtain ⟨z, hz, rfl⟩ := Option.map_eq_some_iff.mp hx
      refine ⟨_, rfl, m, 90007, rfl, rfl, .inl ⟨by omega, by omega⟩, _, rfl, .inl ⟨z, rfl, _, z, rfl, rfl, .inl ⟨_, rfl, _, 3, rfl, rfl, ⟨by decide, ?_⟩, .inl ⟨_, rfl, _, 2147483563, rfl, rfl, by dsimp only; omega, _, 1, rfl, rfl, ?_⟩⟩⟩⟩
      · have b := Gx.bits_add (bits_mono (bits_of_lt (a := m * 90007) (k := 49) (by omega)) (by decide : 49 ≤ 1048576)) (hb z (List.mem_of_getElem? hz))
        omega
      · have h0 := Int.emod_nonneg ((m * 90007 + z) ^ (3 : Int).toNat) (by decide : (2147483563 : Int) ≠ 0)
        have h1 := Int.emod_lt_of_pos ((m * 90007 + z) ^ (3 : Int).toNat) (by decide : (0 : Int) < 2147483563)
        exact ⟨_, some (.int z), by omega, by omega, rfl, rfl⟩
    · obtain ⟨m, c, m0, m1, rfl, rfl⟩ := p
      have fin : ∀ (o : Int), 0 ≤ o → ∀ l, H' l = none → Q (.ref l) (upd H' l (.lst [.int o, .int m])) := fun o h0 l hl => q _ _ hl ⟨o, m, rfl, h0, m0, m1⟩
      refine ⟨_, rfl, _, rfl, _, _, rfl, .inl ⟨_, hS, rfl⟩, st, _, rfl, rfl, _, rfl, ?_⟩
      refine ite2 (fun c => ?_) (fun c => ?_)
      · have c2 : st < (ns.map V.int).length := of_decide_eq_true c
        rw [List.length_map] at c2
        have hz : ns[st.toNat]? = some (ns[st.toNat]'(by omega)) := List.getElem?_eq_getElem _
        have hat : atI (ns.map V.int) st = some (.int (ns[st.toNat]'(by omega))) := by
          have e := atI_nat (xs := ns.map V.int) (j := st.toNat) (v := .int (ns[st.toNat]'(by omega))) (by rw [List.getElem?_map, hz]; rfl)
          rwa [Int.toNat_of_nonneg s0] at e
        refine ⟨_, rfl, _, rfl, a, _, st, _, rfl, rfl, hS, hat, 10, 18, rfl, rfl, ⟨by decide, by decide⟩, _, _, rfl, rfl, _, rfl, ?_⟩
        refine ite2 (fun d => ?_) (fun d => ?_)
        · have d2 := of_decide_eq_true d
          refine ⟨_, rfl, _, rfl, a, _, st, _, rfl, rfl, hS, hat, 10, 18, rfl, rfl, ⟨by decide, by decide⟩, _, _, rfl, rfl, ?_⟩
          exact ⟨_, rfl, _, rfl, (by show 2 ≤ sizeLine; decide), fin _ (by omega)⟩
        · exact ⟨_, rfl, _, rfl, (by show 2 ≤ sizeLine; decide), fin 0 (by omega)⟩
      · exact ⟨_, rfl, _, rfl, (by show 2 ≤ sizeLine; decide), fin 0 (by omega)⟩

theorem ca_law_pick (F : Facts K mg) : Ca P w K mg base CX0 2 "_law_pick" (spPick K) := by
  obtain ⟨fd, D⟩ := fun_law_pick F
  refine ⟨_, fd, ["source", "some"], D.ok sc_law_pick (fun vs H Q E h => ?_) (fun cdv A outer s H vs Q E hr h => ?_), D.bindsN fun _ _ _ _ _ _ us hl => match us, hl with | [_, _], _ => rfl, g__law_pick F, D.kp⟩
  · obtain ⟨_, _, rfl, _⟩ := h
    rfl
  · have hu := hu_of hr
    skip
    refine ⟨_, PSs.nox (pss_one (ps_ret (pe_ix ix_seq (pv 1) (pe_ca (ca_law_draw F) (hr.mono (by decide)) rfl pass0 (pa_cons (pv 0) (pa_cons (pe_callB call_len (by rfl) (z_len F) boot_len (pa_cons (pv 1) pa_nil)) pa_nil))) (fun _ _ => rfl)))), ?_⟩
    obtain ⟨p, w2, rfl, hs, h⟩ := h
    have hs0 := hs
    obtain ⟨sx, sy, sp, _⟩ := hs
    rcases h with ⟨b, vs, rfl, hv, h0, h1, ne, q⟩ | ⟨z, rfl, h0, h1, q⟩
    · refine ⟨_, rfl, _, rfl, _, rfl, _, _, rfl, .inl ⟨_, hv, rfl⟩, ?_⟩
      refine ⟨p, _, rfl, hs0, by omega, by omega, fun r o r0 r1 ho => ?_⟩
      have e : vs[r.toNat]? = some (vs[r.toNat]'(by omega)) := List.getElem?_eq_getElem _
      have hat := atI_nat e
      rw [Int.toNat_of_nonneg r0] at hat
      have hv2 : SqL K (upd H p o) b vs := by
        rcases hv with (hv | ⟨ob, hv⟩) | hv
        · exact .inl (.inl (by rw [upd_ne ne]; exact hv))
        · exact .inl (.inr ⟨ob, by rw [upd_ne ne]; exact hv⟩)
        · exact .inr hv
      exact .inl ⟨b, vs, r, _, rfl, rfl, hv2, hat, q _ o (List.mem_of_getElem? e) ho⟩
    · have hz : z.length ≤ sizeLine := Nat.le_trans (Nat.le_of_lt h1) (by decide)
      refine ⟨_, rfl, _, rfl, _, rfl, _, _, rfl, ⟨hz, rfl⟩, ?_⟩
      refine ⟨p, _, rfl, hs0, by omega, by omega, fun r o r0 r1 ho => ?_⟩
      have zl : z.cps.toList.length = z.length := by rw [Array.length_toList]; rfl
      have e : z.cps.toList[r.toNat]? = some (z.cps.toList[r.toNat]'(by omega)) := List.getElem?_eq_getElem _
      have hat := atI_nat e
      rw [Int.toNat_of_nonneg r0] at hat
      exact .inr (.inr ⟨z, r, _, rfl, rfl, hz, hat, q _ o (List.mem_of_getElem? e) ho⟩)

theorem ca_law_mixed (F : Facts K mg) : Ca P w K mg base CX0 2 "_law_mixed" (spMixed K) := by
  obtain ⟨fd, D⟩ := fun_law_mixed F
  refine ⟨_, fd, ["source", "some"], D.ok sc_law_mixed (fun vs H Q E h => ?_) (fun cdv A outer s H vs Q E hr h => ?_), D.bindsN fun _ _ _ _ _ _ us hl => match us, hl with | [_, _], _ => rfl, g__law_mixed F, D.kp⟩
  · obtain ⟨_, _, _, rfl, _⟩ := h
    rfl
  · have hu := hu_of hr
    skip
    refine ⟨_, PSs.nox (pss_cons (ps_par (i := 2) (j := 3) (by rfl) sc_law_mixed.nd rfl rfl (by decide) rfl rfl (pa_cons (pe_callTy call_list_of (by rfl) (z_list F) (by decide +kernel) (pa_cons (pv 1) pa_nil)) (pa_cons (pe_lst pa_nil) pa_nil)) (by rfl))
    (pss_cons (ps_while PassesOwn.never (pt_cmpR (op_neD hr.units) (pv 2) (pe_lst pa_nil) (nomark _))
      (pss_one (ps_expr (pe_bm PySem.F.plainAttrs_list PySem.F.slot_list_append PySem.F.type_list_append mt_append (pv 3) (pa_cons (pe_bm PySem.F.plainAttrs_list PySem.F.slot_list_pop PySem.F.type_list_pop mt_popAt (pv 2) (pa_cons (pe_ca (ca_law_draw F) (hr.mono (by decide)) rfl pass0 (pa_cons (pv 0) (pa_cons (pe_callB call_len (by rfl) (z_len F) boot_len (pa_cons (pv 2) pa_nil)) pa_nil))) pa_nil)) pa_nil)))))
    (pss_one (ps_ret (pv 3))))), ?_⟩
    obtain ⟨p, a, xs, rfl, hs, nap, hx, few, ok, q⟩ := h
    refine ⟨_, rfl, a, _, rfl, hx, fun l n1 => ?_⟩
    generalize g1 : upd _ l _ = H1
    obtain ⟨k1, e1, _⟩ := laid g1 n1
    refine ⟨(by show 0 ≤ sizeLine; decide), fun f n2 => ?_⟩
    generalize g2 : upd _ f _ = H2
    obtain ⟨k2, e2, _⟩ := laid g2 n2
    have lp : l ≠ p := hs.old n1
    have fp : f ≠ p := (hs.same k1).old n2
    have lf : l ≠ f := fun z => by rw [z, n2] at e1; cases e1
    have n2' : H f = none := none_old k1 n2
    refine ⟨_, _, rfl, ?_⟩
    refine while_by (fun σ H' => ∃ lot found : List Str, σ = [some (.ref p), some (.ref a), some (.ref l), some (.ref f)] ∧ Kp p H H' ∧ SrcAt H' p ∧ H' l = some (.lst (lot.map V.str)) ∧ H' f = some (.lst (found.map V.str)) ∧ (found ++ lot).Perm xs) (fun _ H' => match H' l with | some (.lst ys) => ys.length | _ => 0)
      ⟨xs, [], rfl, Same.kp (k1.trans k2), (hs.same k1).same k2, k2 _ _ e1, e2, by simp⟩ (fun σ H' z => ?_) (fun σ H' Q1 Q2 m c => ?_)
    · obtain ⟨lot, found, rfl, kp, s2, hl, hf, pm⟩ := z
      have okl : ∀ x ∈ lot, okS x := fun x hx => ok x (pm.mem_iff.mp (List.mem_append_right _ hx))
      refine ⟨_, rfl, (by show 0 ≤ sizeLine; decide), fun t nt => ?_⟩
      generalize gt : upd _ t _ = H3
      obtain ⟨kt, et, _⟩ := laid gt nt
      refine ⟨.list (lot.map .str), .list [], .lst (SqL.of (kt _ _ hl)) (dp_strs lot), .lst (SqL.of et) .nil, ?_, by decide +kernel, ?_⟩
      · unfold SeqAt.shaped
        rw [Bool.and_eq_true]
        refine ⟨by simp only [PyData.canLay0]; exact lay_str okl, decide_eq_true ?_⟩
        simp only [PyData.depth, depth_str]
        omega
      refine ⟨_, rfl, ?_⟩
      have s3 := s2.same kt
      have kp3 : Kp p H H3 := kp.trans (Same.kp kt)
      have hl3 := kt _ _ hl
      have hf3 := kt _ _ hf
      cases lot with
      | nil =>
        have e : (!PyData.eqv (.list (([] : List Str).map .str)) (.list [])) = false := by decide +kernel
        rw [e]
        refine ⟨_, rfl, ?_⟩
        rw [List.append_nil] at pm
        exact q _ _ found kp3 s3 hf3 pm n2'
      | cons x0 rest =>
        have e : (!PyData.eqv (.list ((x0 :: rest).map .str)) (.list [])) = true := by simp [PyData.eqv, PyData.eqvAll]
        rw [e]
        have ll : (x0 :: rest).length ≤ xs.length := by rw [← pm.length_eq, List.length_append]; omega
        have ll2 : found.length ≤ xs.length := by rw [← pm.length_eq, List.length_append]; omega
        refine ⟨_, rfl, .inl ⟨rfl, _, SqL.of hf3⟩, ?_⟩
        refine ⟨_, rfl, .inl ⟨rfl, _, SqL.of hl3⟩, ?_⟩
        refine ⟨_, rfl, _, rfl, _, _, rfl, .inl ⟨_, SqL.of hl3, rfl⟩, ?_⟩
        have lm : ((x0 :: rest).map V.str).length = rest.length + 1 := by simp
        refine ⟨p, _, rfl, s3, by rw [lm]; omega, by rw [lm]; simp only [List.length_cons] at ll; omega, fun r o r0 r1 ho => ?_⟩
        rw [lm] at r1
        have rn : r.toNat < (x0 :: rest).length := by simp only [List.length_cons]; omega
        have er : (x0 :: rest)[r.toNat]? = some ((x0 :: rest)[r.toNat]) := List.getElem?_eq_getElem rn
        have s4 : SrcAt (upd H3 p o) p := SrcAt.put ho
        have hl4 : (upd H3 p o) l = some (.lst ((x0 :: rest).map V.str)) := by rw [upd_ne lp]; exact hl3
        have hf4 : (upd H3 p o) f = some (.lst (found.map V.str)) := by rw [upd_ne fp]; exact hf3
        have kp4 : Kp p H (upd H3 p o) := kp3.trans Kp.put
        generalize upd H3 p o = H4 at s4 hl4 hf4 kp4 ⊢
        refine ⟨l, _, r, r.toNat, .str ((x0 :: rest)[r.toNat]), rfl, rfl, hl4, by omega, by simp only [List.length_cons] at ll; omega, ?_, by rw [List.getElem?_map, er]; rfl, ?_⟩
        · rw [lm]
          exact seqIx r0 (by simp only [List.length_cons] at rn; omega)
        have hf5 : (upd H4 l (.lst (((x0 :: rest).map V.str).eraseIdx r.toNat))) f = some (.lst (found.map V.str)) := by rw [upd_ne (Ne.symm lf)]; exact hf4
        refine ⟨f, _, _, rfl, rfl, hf5, by rw [List.length_map]; exact Nat.lt_of_lt_of_le (by omega : found.length < 1000) (by decide), ?_⟩
        have em : ((x0 :: rest).map V.str).eraseIdx r.toNat = ((x0 :: rest).eraseIdx r.toNat).map V.str := erase_map _ _
        have h4n : H l = none := n1
        refine ⟨⟨(x0 :: rest).eraseIdx r.toNat, found ++ [(x0 :: rest)[r.toNat]], rfl, fun b ob nb eb => ?_, ?_, ?_, ?_, ?_⟩, ?_⟩
        · have b1 : b ≠ f := ne_of_none eb n2'
          have b2 : b ≠ l := ne_of_none eb h4n
          rw [upd_ne b1, upd_ne b2]
          exact kp4 _ _ nb eb
        · obtain ⟨u, v, eu, hu⟩ := s4
          exact ⟨u, v, by rw [upd_ne (Ne.symm fp), upd_ne (Ne.symm lp)]; exact eu, hu⟩
        · rw [upd_ne lf, upd_same, em]
        · rw [upd_same, List.map_append]
          rfl
        · rw [List.append_assoc]
          refine List.Perm.trans (List.Perm.append_left found ?_) pm
          exact (perm_erase er).symm
        · show (match (upd _ f _) l with | some (.lst ys) => ys.length | _ => 0) < (match H' l with | some (.lst ys) => ys.length | _ => 0)
          rw [upd_ne lf, upd_same, hl, em]
          simp only [List.length_map, List.length_eraseIdx]
          rw [if_pos rn]
          simp only [List.length_cons]
          omega
    · obtain ⟨v, hv, sz, f⟩ := c
      exact ⟨v, hv, sz, fun l hl => by
        obtain ⟨d, e, h1, h2, h3, h4, k, hk, q⟩ := f l hl
        exact ⟨d, e, h1, h2, h3, h4, k, hk, m _ _ q⟩⟩

end
end K02

namespace K02
open PySem PySem.Spec PyProof.Rows L2 Gx
section
variable {P : Program} {w : World} {K : PySem.W.Frag} {mg : Str → Option Value} {base : Heap}

def nine : List Str := ["a", "b", "c", "hat", "coat", "things", "top", "place", "abcdefgh"]
def nmB (x : Str) : Bool := decide (1 ≤ x.length) && (decide (x.length ≤ 8) && x.cps.toList.all fun c => decide (97 ≤ c) && decide (c ≤ 122))
theorem nmB_ok {x : Str} (h : nmB x = true) : NM x := by
  unfold nmB at h
  simp only [Bool.and_eq_true, decide_eq_true_eq, List.all_eq_true] at h
  exact ⟨h.1, h.2.1, fun c hc => h.2.2 c hc⟩
theorem nine_nm : ∀ x ∈ nine, NM x := by
  have h : nine.all nmB = true := by decide +kernel
  exact fun x hx => nmB_ok (List.all_eq_true.mp h x hx)
theorem nine_ok : ∀ x ∈ nine, okS x := fun x hx => (nine_nm x hx).ok
theorem cut_take {xs : List V} {k : Int} (h : 0 ≤ k) : cutV xs none (some k) = xs.take k.toNat := by
  unfold cutV
  have e : HT.sIx xs.length xs.length (some k) = min k.toNat xs.length := by
    have := HT.sIx_nat xs.length xs.length k.toNat
    rwa [Int.toNat_of_nonneg h] at this
  rw [e, HT.sIx_none, List.drop_zero, Nat.sub_zero]
  rcases Nat.le_total k.toNat xs.length with l | l
  · rw [Nat.min_eq_left l]
  · rw [Nat.min_eq_right l, List.take_length, List.take_of_length_le l]
theorem ixn {r : Int} {n : Nat} (h0 : 0 ≤ r) (h1 : r < n) : ixN n r = some r.toNat := by
  unfold ixN
  simp [h0, h1]
theorem nodup_set {α : Type} : ∀ {xs : List α} (i : Nat) {x : α}, xs.Nodup → x ∉ xs → (xs.set i x).Nodup
  | [], i, x, _, _ => by simp
  | a :: xs, 0, x, nd, h => by
    simp only [List.set_cons_zero, List.nodup_cons]
    exact ⟨fun z => h (List.mem_cons_of_mem _ z), (List.nodup_cons.mp nd).2⟩
  | a :: xs, i + 1, x, nd, h => by
    simp only [List.set_cons_succ, List.nodup_cons]
    refine ⟨fun z => ?_, nodup_set i (List.nodup_cons.mp nd).2 (fun z => h (List.mem_cons_of_mem _ z))⟩
    rcases List.mem_or_eq_of_mem_set z with z | z
    · exact (List.nodup_cons.mp nd).1 z
    · exact h (z ▸ List.mem_cons_self)
theorem SqL.kne {K : PySem.W.Frag} {H H' : Hp} {p a : Addr} {xs : List V} (h : SqL K H a xs) (k : Kp p H H') (n : a ≠ p) : SqL K H' a xs := by
  rcases h with (h | ⟨o, h⟩) | h
  · exact .inl (.inl (k _ _ n h))
  · exact .inl (.inr ⟨o, k _ _ n h⟩)
  · exact .inr h
theorem len_snoc (z : Str) (d : Nat) : (z ++ (⟨#[d]⟩ : Str)).length = z.length + 1 := by
  show (z.cps ++ #[d]).size = z.cps.size + 1
  simp
theorem mem_snoc {z : Str} {d e : Nat} (h : e ∈ (z ++ (⟨#[d]⟩ : Str)).cps.toList) : e ∈ z.cps.toList ∨ e = d := by
  have h2 : e ∈ (z.cps ++ #[d]).toList := h
  simpa using h2
theorem abc (e : Nat) (h : e ∈ (Str.ofString "abcdefghijklmnopqrstuvwxyz").cps.toList) : 97 ≤ e ∧ e ≤ 122 := by
  have all : (Str.ofString "abcdefghijklmnopqrstuvwxyz").cps.toList.all (fun c => decide (97 ≤ c) && decide (c ≤ 122)) = true := by decide +kernel
  have := List.all_eq_true.mp all e h
  simpa using this
theorem nine_nd : nine.Nodup := by decide +kernel
theorem ca_law_word (F : Facts K mg) : Ca P w K mg base CX0 3 "_law_word" (spWord) := by
  obtain ⟨fd, D⟩ := fun_law_word F
  refine ⟨_, fd, ["source"], D.ok sc_law_word (fun vs H Q E h => ?_) (fun cdv A outer s H vs Q E hr h => ?_), D.bindsN fun _ _ _ _ _ _ us hl => match us, hl with | [_], _ => rfl, g__law_word F, D.kp⟩
  · obtain ⟨_, rfl, _⟩ := h
    rfl
  · have hu := hu_of hr
    skip
    refine ⟨_, PSs.nox (pss_cons (ps_set (i := 1) sc_law_word.nd rfl (Or.inl rfl) pe_str)
    (pss_cons (ps_for PassesOwn.never rfl (pi_range1 rfl (z_range F) (pa_cons (pe_op op_add pe_int (pe_ca (ca_law_draw F) (hr.mono (by decide)) rfl pass0 (pa_cons (pv 0) (pa_cons pe_int pa_nil)))) pa_nil)) (pg_name (i := 2) sc_law_word.nd rfl (Or.inl rfl))
      (pss_one (ps_set (i := 1) sc_law_word.nd rfl (Or.inl rfl) (pe_op op_add_str (pv 1) (pe_ca (ca_law_pick F) (hr.mono (by decide)) rfl pass0 (pa_cons (pv 0) (pa_cons pe_str pa_nil)))))))
    (pss_one (ps_ret (pv 1))))), ?_⟩
    obtain ⟨p, rfl, hs, q⟩ := h
    refine ⟨_, rfl, p, 8, rfl, hs, by decide, by decide, fun r o r0 r1 ho => ?_⟩
    refine ⟨_, _, rfl, rfl, ?_⟩
    have rn : (1 + r).toNat ≤ 8 := by omega
    refine ⟨1 + r, rfl, by omega, by omega, for_range (n := (1 + r).toNat) (fun i σ H' => ∃ (z : Str) (c : Option V), σ = [some (.ref p), some (.str z), c] ∧ Kp p H H' ∧ SrcAt H' p ∧ z.length = i ∧ ∀ c ∈ z.cps.toList, 97 ≤ c ∧ c ≤ 122) ⟨"", none, rfl, Kp.put, SrcAt.put ho, rfl, fun c h => by cases h⟩ (fun i σ H' hi z => ?_) (fun σ H' z => ?_)⟩
    · obtain ⟨z, c, rfl, kp, s2, hl, hc⟩ := z
      refine ⟨_, rfl, _, rfl, p, .str "abcdefghijklmnopqrstuvwxyz", rfl, s2, .inr ⟨_, rfl, by decide +kernel, by decide +kernel, fun d o2 hd ho2 => ?_⟩⟩
      refine ⟨_, _, rfl, rfl, ?_, ?_⟩
      · show z.length + 1 ≤ sizeLine
        rw [hl, sizeLine_eq]
        omega
      refine ⟨_, _, rfl, kp.trans Kp.put, SrcAt.put ho2, ?_, ?_⟩
      · show (z ++ (⟨#[d]⟩ : Str)).length = i + 1
        rw [← hl]
        exact len_snoc z d
      · intro e he
        rcases mem_snoc he with h | h
        · exact hc e h
        · subst h
          exact abc e hd
    · obtain ⟨z, c, rfl, kp, s2, hl, hc⟩ := z
      exact ⟨_, rfl, q _ z kp s2 ⟨by omega, by omega, hc⟩⟩

theorem ca_law_names (F : Facts K mg) : Ca P w K mg base CX0 4 "_law_names" (spNames K) := by
  obtain ⟨fd, D⟩ := fun_law_names F
  refine ⟨_, fd, ["source", "many"], D.ok sc_law_names (fun vs H Q E h => ?_) (fun cdv A outer s H vs Q E hr h => ?_), D.bindsN fun _ _ _ _ _ _ us hl => match us, hl with | [_, _], _ => rfl, g__law_names F, D.kp⟩
  · obtain ⟨_, _, rfl, _⟩ := h
    rfl
  · have hu := hu_of hr
    skip
    refine ⟨_, PSs.nox (pss_cons (ps_set (i := 2) sc_law_names.nd rfl (Or.inl rfl) (pe_ca (ca_law_mixed F) (hr.mono (by decide)) rfl pass0 (pa_cons (pv 0) (pa_cons (pe_lst (pa_cons pe_str (pa_cons pe_str (pa_cons pe_str (pa_cons pe_str (pa_cons pe_str (pa_cons pe_str (pa_cons pe_str (pa_cons pe_str (pa_cons pe_str pa_nil)))))))))) pa_nil))))
    (pss_cons (ps_set (i := 3) sc_law_names.nd rfl (Or.inl rfl) (pe_ca (ca_law_word F) (hr.mono (by decide)) rfl pass0 (pa_cons (pv 0) pa_nil)))
    (pss_cons (ps_if (pt_cmpR (op_notIn_seqK (K := K) rfl) (pv 3) (pv 2) (by rfl)) (pss_one (ps_asg (pv 3) (pg_sub (pv 2) (pe_ca (ca_law_draw F) (hr.mono (by decide)) rfl pass0 (pa_cons (pv 0) (pa_cons (pv 1) pa_nil))) set_list))) pss_nil)
    (pss_one (ps_ret (pe_slice sl_list (pv 2) po_none (po_some (pv 1)))))))), ?_⟩
    obtain ⟨p, many, rfl, hs, m1, m5, q⟩ := h
    refine ⟨_, rfl, (by show 9 ≤ sizeLine; decide), fun a na => ?_⟩
    generalize g1 : upd _ a _ = H1
    obtain ⟨k1, e1, _⟩ := laid g1 na
    refine ⟨p, a, nine, rfl, hs.same k1, hs.old na, .inl (SqL.of e1), by decide, nine_ok, fun H2 l ys k2 s2 e2 pm n2 => ?_⟩
    refine ⟨_, rfl, p, rfl, s2, fun H3 x k3 s3 nx => ?_⟩
    have lp : l ≠ p := (hs.same k1).old n2
    have kpA : Kp p H H3 := (Same.kp k1).trans (k2.trans k3)
    have e3 := k3 _ _ lp e2
    have yl : ys.length = 9 := pm.length_eq
    have yn : ys.Nodup := pm.nodup_iff.mpr nine_nd
    have ym : ∀ y ∈ ys, NM y := fun y hy => nine_nm y (pm.mem_iff.mp hy)
    refine ⟨_, rfl, _, rfl, l, _, rfl, .inl (SqL.of e3), rfl, flat_texts ys, ?_⟩
    rw [show (if true = true then !inV (.str x) (ys.map V.str) else inV (.str x) (ys.map V.str)) = !decide (x ∈ ys) from by rw [in_texts]; rfl]
    refine ⟨_, rfl, ?_⟩
    by_cases hx : x ∈ ys
    · rw [decide_eq_true hx]
      have KP := kpA
      have SR := s3
      have HL := e3
      have ZL := yl
      have ZN := yn
      have ZM := ym
      refine ⟨_, rfl, _, rfl, many, rfl, l, _, rfl, SqL.of HL, fun t nt => ?_⟩
      rw [cut_take (by omega : 0 ≤ many), ← List.map_take]
      have nt0 : H t = none := Kp.none KP hs nt SR
      exact q _ t _ (KP.trans (Same.kp (Same.new nt))) (SR.same (Same.new nt)) upd_same (by rw [List.length_take, ZL]; omega) (List.Sublist.nodup (List.take_sublist _ _) ZN) (fun y hy => ZM y (List.mem_of_mem_take hy)) nt0
    · rw [decide_eq_false hx]
      refine ⟨_, rfl, _, rfl, _, rfl, _, rfl, p, many, rfl, s3, by omega, by omega, fun r o r0 r1 ho => ?_⟩
      have rl : r.toNat < ys.length := by omega
      have e4 : (upd H3 p o) l = some (.lst (ys.map V.str)) := by rw [upd_ne lp]; exact e3
      refine ⟨l, _, r, r.toNat, rfl, rfl, e4, ixn r0 (by rw [List.length_map]; omega), ?_⟩
      rw [← List.map_set]
      have KP : Kp p H (upd (upd H3 p o) l (.lst ((ys.set r.toNat x).map V.str))) := fun b ob nb eb => by
        have b1 : b ≠ l := ne_of_none (k1 _ _ eb) n2
        rw [upd_ne b1, upd_ne nb]
        exact kpA _ _ nb eb
      have SR : SrcAt (upd (upd H3 p o) l (.lst ((ys.set r.toNat x).map V.str))) p := by
        obtain ⟨u, v, eu, hu⟩ := SrcAt.put (H := H3) (p := p) ho
        exact ⟨u, v, by rw [upd_ne (Ne.symm lp)]; exact eu, hu⟩
      have HL : (upd (upd H3 p o) l (.lst ((ys.set r.toNat x).map V.str))) l = some (.lst ((ys.set r.toNat x).map V.str)) := upd_same
      have ZL : (ys.set r.toNat x).length = 9 := by rw [List.length_set]; exact yl
      have ZN := nodup_set r.toNat yn hx
      have ZM : ∀ y ∈ ys.set r.toNat x, NM y := fun y hy => (List.mem_or_eq_of_mem_set hy).elim (ym y) (fun e => e ▸ nx)
      generalize upd (upd H3 p o) l (.lst ((ys.set r.toNat x).map V.str)) = H5 at KP SR HL ⊢
      refine ⟨_, rfl, _, rfl, many, rfl, l, _, rfl, SqL.of HL, fun t nt => ?_⟩
      rw [cut_take (by omega : 0 ≤ many), ← List.map_take]
      have nt0 : H t = none := Kp.none KP hs nt SR
      exact q _ t _ (KP.trans (Same.kp (Same.new nt))) (SR.same (Same.new nt)) upd_same (by rw [List.length_take, ZL]; omega) (List.Sublist.nodup (List.take_sublist _ _) ZN) (fun y hy => ZM y (List.mem_of_mem_take hy)) nt0

theorem ca_law_some (F : Facts K mg) : Ca P w K mg base CX0 3 "_law_some" (spSome K) := by
  obtain ⟨fd, D⟩ := fun_law_some F
  refine ⟨_, fd, ["source", "names", "least"], D.ok sc_law_some (fun vs H Q E h => ?_) (fun cdv A outer s H vs Q E hr h => ?_), D.bindsN fun _ _ _ _ _ _ us hl => match us, hl with | [_, _, _], _ => rfl, g__law_some F, D.kp⟩
  · obtain ⟨_, _, _, _, rfl, _⟩ := h
    rfl
  · have hu := hu_of hr
    skip
    refine ⟨_, PSs.nox (pss_one (ps_ret (pe_callTy (call_tuple_ofK (K := K) rfl) (by rfl) (z_tuple F) (by decide +kernel) (pa_cons (pe_slice sl_list (pe_ca (ca_law_mixed F) (hr.mono (by decide)) rfl pass0 (pa_cons (pv 0) (pa_cons (pv 1) pa_nil))) po_none (po_some (pe_op op_add (pv 2) (pe_ca (ca_law_draw F) (hr.mono (by decide)) rfl pass0 (pa_cons (pv 0) (pa_cons (pe_op op_sub (pe_op op_add (pe_callB call_len (by rfl) (z_len F) boot_len (pa_cons (pv 1) pa_nil)) pe_int) (pv 2)) pa_nil)))))) pa_nil)))), ?_⟩
    obtain ⟨p, a, xs, least, rfl, hs, nap, hx, nd, ok, l0, l1, l5, q⟩ := h
    refine ⟨_, rfl, _, rfl, p, a, xs, rfl, hs, nap, hx, by omega, ok, fun H2 l ys k2 s2 e2 pm n2 => ?_⟩
    have yl : ys.length = xs.length := pm.length_eq
    have lp : l ≠ p := hs.old n2
    have ln : (∃ zs, SqL K H2 a zs ∧ xs.length = zs.length) ∨ ∃ zs, SqT K H2 a zs ∧ xs.length = zs.length := hx.elim (fun h => .inl ⟨_, SqL.kne h k2 nap, by simp⟩) (fun h => .inr ⟨_, SqT.src h k2 hs, by simp⟩)
    refine ⟨_, rfl, _, rfl, _, rfl, _, xs.length, rfl, ln, _, _, rfl, rfl, _, rfl, _, _, rfl, rfl, p, _, rfl, s2, by omega, by omega, fun r o r0 r1 ho => ?_⟩
    refine ⟨_, _, rfl, rfl, _, rfl, l, _, rfl, SqL.of (by rw [upd_ne lp]; exact e2), fun t nt => ?_⟩
    rw [cut_take (by omega : 0 ≤ least + r), ← List.map_take]
    generalize g3 : upd _ t _ = H3
    obtain ⟨k3, e3, _⟩ := laid g3 nt
    refine ⟨t, _, rfl, .inl ⟨SqL.of e3, fun u nu => ?_⟩⟩
    generalize g4 : upd _ u _ = H4
    obtain ⟨k4, e4, _⟩ := laid g4 nu
    refine q _ u _ ((k2.trans Kp.put).trans (Same.kp (k3.trans k4))) (((SrcAt.put ho).same k3).same k4) (.inl (.inl e4)) (List.Sublist.nodup (List.take_sublist _ _) (pm.nodup_iff.mpr nd)) (fun y hy => pm.mem_iff.mp (List.mem_of_mem_take hy)) ?_
    rw [List.length_take]
    omega

end
end K02

namespace K02
open PySem PySem.Spec PyProof.Rows L2 Gx
section
variable {P : Program} {w : World} {K : PySem.W.Frag} {mg : Str → Option Value} {base : Heap}

theorem SqT.lst {K : PySem.W.Frag} {m a : Addr} {H H' : Hp} {xs ys : List V} (h : SqT K H a xs) (k : Kp m H H') (e : H m = some (.lst ys)) : SqT K H' a xs := by
  rcases h with h | h
  · have ne : a ≠ m := fun z => by
      subst z
      rcases h with h | ⟨o, h⟩ <;> rw [e] at h <;> cases h
    rcases h with h | ⟨o, h⟩
    · exact .inl (.inl (k _ _ ne h))
    · exact .inl (.inr ⟨o, k _ _ ne h⟩)
  · exact .inr h
theorem EAt.lst {K : PySem.W.Frag} {m : Addr} {H H' : Hp} {ys : List V} {v : V} {e : Ent} (h : EAt K H v e) (k : Kp m H H') (q : H m = some (.lst ys)) : EAt K H' v e := by
  obtain ⟨a, w, l, rfl, h1, h2, h3⟩ := h
  exact ⟨a, w, l, rfl, SqT.lst h1 k q, SqT.lst h2 k q, SqT.lst h3 k q⟩
theorem ca_law_base (F : Facts K mg) : Ca P w K mg base CX0 5 "_law_base" (spBase K) := by
  obtain ⟨fd, D⟩ := fun_law_base F
  refine ⟨_, fd, ["source", "most"], D.ok sc_law_base (fun vs H Q E h => ?_) (fun cdv A outer s H vs Q E hr h => ?_), D.bindsN fun _ _ _ _ _ _ us hl => match us, hl with | [_, _], _ => rfl, g__law_base F, D.kp⟩
  · obtain ⟨_, _, rfl, _⟩ := h
    rfl
  · have hu := hu_of hr
    skip
    refine ⟨_, PSs.nox (pss_cons (ps_set (i := 2) sc_law_base.nd rfl (Or.inl rfl) (pe_callTy (call_tuple_ofK (K := K) rfl) (by rfl) (z_tuple F) (by decide +kernel) (pa_cons (pe_ca (ca_law_names F) (hr.mono (by decide)) rfl pass0 (pa_cons (pv 0) (pa_cons (pe_op op_add pe_int (pe_ca (ca_law_draw F) (hr.mono (by decide)) rfl pass0 (pa_cons (pv 0) (pa_cons (pv 1) pa_nil)))) pa_nil))) pa_nil)))
    (pss_cons (ps_par (i := 4) (j := 5) (by rfl) sc_law_base.nd rfl rfl (by decide) rfl rfl (pa_cons (pe_ca (ca_law_names F) (hr.mono (by decide)) rfl pass0 (pa_cons (pv 0) (pa_cons (pe_op op_add pe_int (pe_ca (ca_law_draw F) (hr.mono (by decide)) rfl pass0 (pa_cons (pv 0) (pa_cons pe_int pa_nil)))) pa_nil))) (pa_cons (pe_lst pa_nil) pa_nil)) (by rfl))
    (pss_cons (ps_for PassesOwn.never rfl (pi_list (pv 4)) (pg_name (i := 3) sc_law_base.nd rfl (Or.inl rfl))
      (pss_cons (ps_set (i := 6) sc_law_base.nd rfl (Or.inl rfl) (pe_ca (ca_law_pick F) (hr.mono (by decide)) rfl pass0 (pa_cons (pv 0) (pa_cons (pe_lst (pa_cons pe_str (pa_cons pe_str (pa_cons pe_str pa_nil)))) pa_nil))))
    (pss_one (ps_expr (pe_bm PySem.F.plainAttrs_list PySem.F.slot_list_append PySem.F.type_list_append mt_append (pv 5) (pa_cons (pe_tup (pa_cons (pv 3) (pa_cons (pe_ca (ca_law_some F) (hr.mono (by decide)) rfl pass0 (pa_cons (pv 0) (pa_cons (pv 2) (pa_cons pe_int pa_nil)))) (pa_cons (pv 6) (pa_cons (pe_ca (ca_law_some F) (hr.mono (by decide)) rfl pass0 (pa_cons (pv 0) (pa_cons (pv 4) (pa_cons pe_int pa_nil)))) pa_nil))))) pa_nil))))))
    (pss_one (ps_ret (pe_tup (pa_cons (pv 2) (pa_cons (pe_callTy (call_tuple_ofK (K := K) rfl) (by rfl) (z_tuple F) (by decide +kernel) (pa_cons (pv 5) pa_nil)) pa_nil)))))))), ?_⟩
    obtain ⟨p, most, rfl, hs, m1, m5, q⟩ := h
    refine ⟨_, rfl, _, rfl, _, rfl, p, most, rfl, hs, by omega, by omega, fun r o r0 r1 ho => ?_⟩
    refine ⟨_, _, rfl, rfl, ?_⟩
    have s1 : SrcAt (upd H p o) p := SrcAt.put ho
    have kp1 : Kp p H (upd H p o) := Kp.put
    generalize upd H p o = H1 at s1 kp1 ⊢
    refine ⟨p, 1 + r, rfl, s1, by omega, by omega, fun H2 a things k2 s2 e2 tl tn tm n2 => ?_⟩
    refine ⟨a, _, rfl, .inl ⟨SqL.of e2, fun tt n3 => ?_⟩⟩
    generalize g3 : upd _ tt _ = H3
    obtain ⟨k3, e3, _⟩ := laid g3 n3
    have s3 := s2.same k3
    have ttp : tt ≠ p := s2.old n3
    refine ⟨_, rfl, _, rfl, p, 4, rfl, s3, by decide, by decide, fun r2 o2 r20 r21 ho2 => ?_⟩
    refine ⟨_, _, rfl, rfl, ?_⟩
    have s4 : SrcAt (upd H3 p o2) p := SrcAt.put ho2
    have T4 : SqT K (upd H3 p o2) tt (things.map V.str) := SqT.src (.inl (.inl e3)) Kp.put s3
    have kp4 : Kp p H (upd H3 p o2) := ((kp1.trans k2).trans (Same.kp k3)).trans Kp.put
    generalize upd H3 p o2 = H4 at s4 T4 kp4 ⊢
    refine ⟨p, 1 + r2, rfl, s4, by omega, by omega, fun H5 nl names k5 s5 e5 nln nn nmm n5 => ?_⟩
    refine ⟨(by show 0 ≤ sizeLine; decide), fun wl n6 => ?_⟩
    have T5 := SqT.src T4 k5 s4
    have nlp : nl ≠ p := s4.old n5
    have kp5 : Kp p H H5 := kp4.trans k5
    generalize g6 : upd _ wl _ = H6
    obtain ⟨k6, e6, _⟩ := laid g6 n6
    have wlp : wl ≠ p := s5.old n6
    have wlH : H wl = none := Kp.none kp5 hs n6 s5
    have wnl : nl ≠ wl := fun z => by rw [z, n6] at e5; cases e5
    refine ⟨_, _, rfl, ?_⟩
    have E6 := k6 _ _ e5
    have T6 := SqT.same T5 k6
    have s6 := s5.same k6
    have kp6 : Kp p H H6 := kp5.trans (Same.kp k6)
    have nl4 : names.length ≤ 4 := by omega
    have nl1 : 1 ≤ names.length := by omega
    refine ⟨_, rfl, nl, rfl, ⟨_, SqL.of E6⟩, for_list (K := K) (xs := names.map V.str) (fun i σ H' => ∃ (es : List V) (ws : List Ent) (c d : Option V), σ = [some (.ref p), some (.int most), some (.ref tt), c, some (.ref nl), some (.ref wl), d] ∧ Kp p H H' ∧ SrcAt H' p ∧ H' nl = some (.lst (names.map V.str)) ∧ SqT K H' tt (things.map V.str) ∧
      H' wl = some (.lst es) ∧ Paired (EAt K H') es ws ∧ ws.map Ent.name = names.take i ∧ ∀ e ∈ ws, WE things names e) ⟨[], [], none, none, rfl, kp6, s6, E6, T6, e6, .nil, rfl, fun e h => by cases h⟩ (fun i σ H' _ z => ?_) (fun i x σ H' hx z => ?_) (fun σ H' z => ?_)⟩
    · obtain ⟨es, ws, c, d, rfl, z1, z2, z3, z4, z5, z6, z7, z8⟩ := z
      exact SqL.of z3
    · obtain ⟨es, ws, c, d, rfl, z1, z2, z3, z4, z5, z6, z7, z8⟩ := z
      rw [List.getElem?_map] at hx
      obtain ⟨nm, hnm, rfl⟩ := Option.map_eq_some_iff.mp hx
      have hi : i < names.length := (List.getElem?_eq_some_iff.mp hnm).1
      refine ⟨_, rfl, (by show 3 ≤ sizeLine; decide), fun b1 nb1 => ?_⟩
      generalize gb : upd _ b1 _ = G1
      obtain ⟨j1, f1, _⟩ := laid gb nb1
      refine ⟨p, _, rfl, z2.same j1, .inl ⟨b1, _, rfl, SqL.of f1, by decide, by decide, z2.old nb1, fun bk o3 hbk ho3 => ?_⟩⟩
      have hbk2 : ∃ bs : Str, bk = .str bs ∧ (bs = "top" ∨ bs = "place") := by
        simp only [List.mem_cons, List.not_mem_nil, or_false] at hbk
        rcases hbk with h | h | h <;> exact ⟨_, h, by simp⟩
      obtain ⟨bs, rfl, hbs⟩ := hbk2
      have kA : Kp p H' (upd G1 p o3) := (Same.kp j1).trans Kp.put
      have sA : SrcAt (upd G1 p o3) p := SrcAt.put ho3
      generalize upd G1 p o3 = G2 at kA sA ⊢
      have wA : G2 wl = some (.lst es) := kA _ _ wlp z5
      have nA : G2 nl = some (.lst (names.map V.str)) := kA _ _ nlp z3
      have tA := SqT.src z4 kA z2
      refine ⟨_, rfl, .inl ⟨rfl, _, SqL.of wA⟩, ?_⟩
      refine ⟨_, rfl, _, rfl, _, rfl, p, tt, things, 0, rfl, sA, ttp, .inr tA, tn, fun x hx => (tm x hx).ok, by decide, by omega, by omega, fun G3 t1 y1 kB sB tB ndB sbB _ => ?_⟩
      have wB := kB _ _ wlp wA
      have nB := kB _ _ nlp nA
      refine ⟨_, rfl, _, rfl, _, rfl, p, nl, names, 1, rfl, sB, nlp, .inl (SqL.of nB), nn, fun x hx => (nmm x hx).ok, by decide, by omega, by omega, fun G4 t2 y2 kC sC tC ndC sbC lC => ?_⟩
      have wC := kC _ _ wlp wB
      have nC := kC _ _ nlp nB
      have tB2 := SqT.src tB kC sB
      refine ⟨(by show 4 ≤ sizeLine; decide), fun u nu => ?_⟩
      generalize gu : upd _ u _ = G5
      obtain ⟨j5, f5, _⟩ := laid gu nu
      have wD := j5 _ _ wC
      have kD : Kp p H' G5 := ((kA.trans kB).trans kC).trans (Same.kp j5)
      have le : es.length = i := by rw [Paired.length z6, ← List.length_map (f := Ent.name), z7, List.length_take]; omega
      refine ⟨wl, _, _, rfl, rfl, wD, Nat.lt_of_lt_of_le (by omega : es.length < 1000) (by decide), ?_⟩
      have kE : Kp wl G5 (upd G5 wl (.lst (es ++ [.ref u]))) := Kp.put
      refine ⟨es ++ [.ref u], ws ++ [⟨nm, y1, bs, y2⟩], some (.str nm), some (.str bs), rfl, fun b ob nb eb => ?_, ?_, ?_, ?_, upd_same, ?_, ?_, ?_⟩
      · have b2 : b ≠ wl := ne_of_none eb wlH
        rw [upd_ne b2]
        exact kD _ _ nb (z1 _ _ nb eb)
      · obtain ⟨x1, x2, x3, x4⟩ := sC.same j5
        exact ⟨x1, x2, by rw [upd_ne (Ne.symm wlp)]; exact x3, x4⟩
      · rw [upd_ne wnl]
        exact j5 _ _ nC
      · exact SqT.lst (SqT.src z4 kD z2) kE wD
      · refine Paired.snoc (Paired.imp2 (fun _ _ h => EAt.lst (h.src kD z2) kE wD) z6) ⟨u, t1, t2, rfl, .inl (.inl (kE _ _ (fun z => by rw [z, wD] at f5; cases f5) f5)), SqT.lst (SqT.same tB2 j5) kE wD, SqT.lst (SqT.same tC j5) kE wD⟩
      · rw [List.map_append, z7, List.take_succ, hnm]
        rfl
      · intro e he
        rcases List.mem_append.mp he with he | he
        · exact z8 e he
        · simp at he
          subst he
          exact ⟨sbB, ndB, sbC, ndC, fun z => by simp only at z; rw [z] at lC; simp at lC, hbs⟩
    · obtain ⟨es, ws, c, d, rfl, z1, z2, z3, z4, z5, z6, z7, z8⟩ := z
      rw [List.length_map, List.take_length] at z7
      refine ⟨_, rfl, _, rfl, wl, es, rfl, .inl ⟨SqL.of z5, fun u nu => ?_⟩⟩
      generalize gu : upd _ u _ = G1
      obtain ⟨j1, f1, _⟩ := laid gu nu
      refine ⟨(by show 2 ≤ sizeLine; decide), fun t nt => ?_⟩
      generalize gt : upd _ t _ = G2
      obtain ⟨j2, f2, _⟩ := laid gt nt
      have j := j1.trans j2
      have wl4 : ws.length = names.length := by rw [← z7, List.length_map]
      exact q _ t ⟨things, ws⟩ (z1.trans (Same.kp j)) (z2.same j) ⟨tt, u, es, .inl (.inl f2), SqT.same z4 j, .inl (.inl (j2 _ _ f1)), Paired.imp2 (fun _ _ h => h.same j) z6⟩
        ⟨by show 1 ≤ things.length; omega, by show things.length ≤ 5; omega, tm, tn, by show 1 ≤ ws.length; omega, by show ws.length ≤ 4; omega, by unfold Bs.names; rw [z7]; exact nmm, by unfold Bs.names; rw [z7]; exact nn, by unfold Bs.names; rw [z7]; exact z8⟩

end
end K02

namespace K02
open PySem PySem.Spec PyProof.Rows L2 Gx
section
variable {P : Program} {w : World} {K : PySem.W.Frag} {mg : Str → Option Value} {base : Heap}

theorem Paired.impM {α β : Type} {R S : α → β → Prop} : ∀ {xs : List α} {ys : List β}, (∀ a b, b ∈ ys → R a b → S a b) → Paired R xs ys → Paired S xs ys
  | _, _, _, .nil => .nil
  | _, _, f, .cons h t => .cons (f _ _ List.mem_cons_self h) (Paired.impM (fun a b hb => f a b (List.mem_cons_of_mem _ hb)) t)
theorem ca_law_made (F : Facts K mg) : Ca P w K mg base CX0 7 "_law_made" (spMade K) := by
  obtain ⟨fd, D⟩ := fun_law_made F
  refine ⟨_, fd, ["base"], D.ok sc_law_made (fun vs H Q E h => ?_) (fun cdv A outer s H vs Q E hr h => ?_), D.bindsN fun _ _ _ _ _ _ us hl => match us, hl with | [_], _ => rfl, g__law_made F, D.kp⟩
  · obtain ⟨_, _, rfl, _⟩ := h
    rfl
  · have hu := hu_of hr
    skip
    refine ⟨_, PSs.nox (pss_cons (ps_par (i := 3) (j := 4) (by rfl) sc_law_made.nd rfl rfl (by decide) rfl rfl (pa_cons (pe_callTy call_list_of (by rfl) (z_list F) (by decide +kernel) (pa_cons (pe_ix (ix_tupK (K := K) rfl) (pv 0) pe_int (fun _ _ => rfl)) pa_nil)) (pa_cons pe_dnewK pa_nil)) (by rfl))
    (pss_cons (ps_for PassesOwn.never rfl (pi_tup (pe_ix (ix_tupK (K := K) rfl) (pv 0) pe_int (fun _ _ => rfl))) (pg_tup rfl (pgs_cons (pg_name (i := 2) sc_law_made.nd rfl (Or.inl rfl)) (pgs_cons (pg_name (i := 5) sc_law_made.nd rfl (Or.inl rfl)) (pgs_cons (pg_name (i := 6) sc_law_made.nd rfl (Or.inl rfl)) (pgs_cons (pg_name (i := 7) sc_law_made.nd rfl (Or.inl rfl)) pgs_nil)))))
      (pss_one (ps_dput hu (pv 4) (pv 2) (pe_tup (pa_cons (pe_callTy call_list_of (by rfl) (z_list F) (by decide +kernel) (pa_cons (pv 5) pa_nil)) (pa_cons (pv 6) (pa_cons (pe_callTy call_list_of (by rfl) (z_list F) (by decide +kernel) (pa_cons (pv 7) pa_nil)) pa_nil)))) rfl)))
    (pss_cons (ps_set (i := 1) sc_law_made.nd rfl (Or.inl rfl) (pe_mk (mk_Menu F) (hr.mono (by decide)) rfl pass0 (pa_cons (pv 3) (pa_cons (pv 4) pa_nil))))
    (pss_cons (ps_for PassesOwn.never rfl (pi_list (pe_callTy (call_list_dK rfl) (by rfl) (z_list F) (by decide +kernel) (pa_cons (pv 4) pa_nil))) (pg_name (i := 2) sc_law_made.nd rfl (Or.inl rfl))
      (pss_cons (ps_expr (pe_bm PySem.F.plainAttrs_list PySem.F.slot_list_append PySem.F.type_list_append mt_append (pe_ix (ix_tupK (K := K) rfl) (pe_dget hu (pv 4) (pv 2) (fun _ _ => rfl)) pe_int (fun _ _ => rfl)) (pa_cons pe_str pa_nil)))
    (pss_one (ps_expr (pe_bm PySem.F.plainAttrs_list PySem.F.slot_list_append PySem.F.type_list_append mt_append (pe_ix (ix_tupK (K := K) rfl) (pe_dget hu (pv 4) (pv 2) (fun _ _ => rfl)) pe_int (fun _ _ => rfl)) (pa_cons pe_str pa_nil))))))
    (pss_cons (ps_expr (pe_bm0 PySem.F.plainAttrs_dict PySem.F.slot_dict_clear PySem.F.type_dict_clear mtd_clear (pv 4)))
    (pss_cons (ps_expr (pe_bm0 PySem.F.plainAttrs_list PySem.F.slot_list_clear PySem.F.type_list_clear mt_clear (pv 3)))
    (pss_one (ps_ret (pv 1))))))))), ?_⟩
    obtain ⟨t, b, rfl, hb, wf, q⟩ := h
    have hb0 := hb
    obtain ⟨th, wt, es, h1, h2, h3, h4⟩ := hb
    refine ⟨_, rfl, t, _, 0, _, rfl, rfl, h1, rfl, th, _, rfl, .inr h2, fun l nl => ?_⟩
    generalize g1 : upd _ l _ = H1
    obtain ⟨k1, e1, _⟩ := laid g1 nl
    intro d nd
    generalize g2 : upd _ d _ = H2
    obtain ⟨k2, e2, _⟩ := laid g2 nd
    have ld : l ≠ d := fun z => by rw [z, nd] at e1; cases e1
    have ndH : H d = none := none_old k1 nd
    have few := wf.w4
    refine ⟨_, _, rfl, ?_⟩
    refine ⟨_, rfl, t, _, 1, _, rfl, rfl, SqT.same h1 (k1.trans k2), rfl, wt, rfl, ⟨_, SqT.same h3 (k1.trans k2)⟩, for_tup (K := K) (xs := es) (fun i σ H' => ∃ (kvs : List (Key × V)) (c2 c5 c6 c7 : Option V), σ = [some (.ref t), none, c2, some (.ref l), some (.ref d), c5, c6, c7] ∧ Same H H' ∧ H' l = some (.lst (b.things.map V.str)) ∧ H' d = some (.dK kvs) ∧ Paired (XAt K H H') kvs (b.ws.take i))
      ⟨[], none, none, none, none, rfl, k1.trans k2, k2 _ _ e1, e2, by rw [List.take_zero]; exact .nil⟩ (fun i σ H' _ z => ?_) (fun i x σ H' hx z => ?_) (fun σ H' z => ?_)⟩
    · obtain ⟨kvs, c2, c5, c6, c7, rfl, z1, z2, z3, z4⟩ := z
      exact SqT.same h3 z1
    · obtain ⟨kvs, c2, c5, c6, c7, rfl, z1, z2, z3, z4⟩ := z
      obtain ⟨e, he, a, w1, l1, rfl, f1, f2, f3⟩ := Paired.at2 h4 hx
      have hi : i < b.ws.length := (List.getElem?_eq_some_iff.mp he).1
      refine ⟨a, _, rfl, SqT.same f1 z1, rfl, _, _, rfl, _, _, rfl, _, _, rfl, _, _, rfl, rfl, ?_⟩
      refine ⟨_, rfl, w1, _, rfl, .inr (SqT.same f2 z1), fun p1 n1 => ?_⟩
      generalize g3 : upd _ p1 _ = G1
      obtain ⟨j1, q1, _⟩ := laid g3 n1
      refine ⟨_, rfl, _, rfl, l1, _, rfl, .inr (SqT.same f3 (z1.trans j1)), fun p2 n2 => ?_⟩
      generalize g4 : upd _ p2 _ = G2
      obtain ⟨j2, q2, _⟩ := laid g4 n2
      refine ⟨(by show 3 ≤ sizeLine; decide), fun u nu => ?_⟩
      generalize g5 : upd _ u _ = G3
      obtain ⟨j3, q3, _⟩ := laid g5 nu
      have j := j1.trans (j2.trans j3)
      have d3 := j _ _ z3
      have lk : kvs.length = i := by rw [Paired.length z4, List.length_take]; omega
      have fresh : (Sum.inr e.name : Key) ∉ kvs.map (·.1) := by
        rw [Paired.map1 (fun _ _ q => q.1) z4]
        intro hm
        obtain ⟨nm, hn, h5⟩ := List.mem_map.mp hm
        cases h5
        rw [List.map_take] at hn
        obtain ⟨y, hy, ey⟩ := List.mem_iff_getElem.mp hn
        rw [List.length_take] at hy
        rw [List.getElem_take] at ey
        have e1 : (b.ws.map Ent.name)[y]? = some e.name := by rw [List.getElem?_eq_getElem (by rw [List.length_map]; omega), ey]
        have e2 : (b.ws.map Ent.name)[i]? = some e.name := by rw [List.getElem?_map, he]; rfl
        have nd2 := wf.wd
        unfold Bs.names at nd2
        have := nodup_inj nd2 e1 e2
        omega
      refine ⟨_, rfl, _, rfl, d, _, rfl, DPut.k (k := .inr e.name) d3 (by rw [lk]; exact Nat.lt_of_lt_of_le (by omega : i < 5) (by decide)), ?_⟩
      rw [putK_new fresh]
      refine ⟨_, _, _, _, _, rfl, Same.over (z1.trans j) ndH, ?_, upd_same, ?_⟩
      · rw [upd_ne ld]
        exact j _ _ z2
      · rw [List.take_succ, he]
        have dk : ∀ {a : Addr} {o : HO}, G3 a = some o → (∀ ks, o ≠ .dK ks) → (upd G3 d (.dK (kvs ++ [(Sum.inr e.name, .ref u)]))) a = some o := fun {a o} q n => by
          rw [upd_ne (fun z => by rw [z, d3] at q; cases q; exact n _ rfl)]
          exact q
        refine Paired.snoc (Paired.imp2 (fun _ _ h => XAt.dic (h.same j) Kp.put d3) z4) ⟨rfl, u, p1, p2, rfl, .inl (.inl (dk q3 (by intros; simp))), none_old z1 n1, none_old (z1.trans j1) n2, dk ((j2.trans j3) _ _ q1) (by intros; simp), dk (j3 _ _ q2) (by intros; simp)⟩
    · obtain ⟨kvs, c2, c5, c6, c7, rfl, z1, z2, z3, z4⟩ := z
      have el : es.length = b.ws.length := Paired.length h4
      rw [el, List.take_length] at z4
      refine ⟨_, rfl, _, rfl, fun m dx nm ndx ne => ?_⟩
      generalize gL : upd (upd H' dx (.own m)) m _ = HL
      have sl : Same H' HL := fun a o h => by rw [← gL, upd_ne (ne_of_none h nm), upd_ne (ne_of_none h ndx)]; exact h
      have a1 : HL m = some (.ins (He.ga K "Menu") dx []) := by rw [← gL]; exact upd_same
      have a2 : HL dx = some (.own m) := by rw [← gL, upd_ne ne]; exact upd_same
      refine ⟨m, dx, .ref l, d, b, kvs, rfl, a1, a2, sl _ _ z3, Paired.imp2 (fun _ _ h => (h.same sl).ent) z4, ⟨l, rfl, .inl (SqL.of (sl _ _ z2))⟩, wf, fun H7 kp isF => ⟨rfl, ?_⟩⟩
      have s7 : Same H' H7 := fun a o h => kp _ _ (ne_of_none h nm) (sl _ _ h)
      have d7 := s7 _ _ z3
      refine ⟨_, rfl, d, kvs, rfl, d7, fun q2 n2 => ?_⟩
      generalize g3 : upd _ q2 _ = H8
      obtain ⟨k8, e8, _⟩ := laid g3 n2
      have q2H : H q2 = none := none_old (z1.trans s7) n2
      have q2L : HL q2 = none := by
        rcases hq : HL q2 with _ | o
        · rfl
        · have nmq : q2 ≠ m := fun z => by
            obtain ⟨x1, x2, x3, x4, x5, x6, x7, x8, y1, _⟩ := isF
            rw [z, y1] at n2
            cases n2
          rw [kp _ _ nmq hq] at n2
          cases n2
      have five : ∀ e ∈ b.ws, e.wishes.length ≤ 5 ∧ e.later.length ≤ 5 := fun e he => by
        have h5 := wf.we e he
        have h6 := nodup_len h5.wd h5.w
        have h7 := nodup_len h5.ld h5.l
        have h8 := wf.t5
        unfold Bs.names at h7
        rw [List.length_map] at h7
        omega
      have L8 : Paired (LAt K (fun a => H a = none ∧ a ≠ q2) H8 5) kvs b.ws := Paired.impM (fun p e he h => LAt.same (XAt.l (h.same s7) n2 (five e he).1 (five e he).2) k8) z4
      refine ⟨q2, rfl, ⟨_, SqL.of e8⟩, for_list (K := K) (xs := kvs.map fun kv => kV kv.1) (fun i σ G => ∃ (c2 c5 c6 c7 : Option V) (ys : List V), σ = [some (.ref t), some (.ref m), c2, some (.ref l), some (.ref d), c5, c6, c7] ∧ Same H G ∧ IsMF K HL G m b ∧ G l = some (.lst ys) ∧ G d = some (.dK kvs) ∧ G q2 = some (.lst (kvs.map fun kv => kV kv.1)) ∧ Paired (LAt K (fun a => H a = none ∧ a ≠ q2) G (5 + 2 * i)) kvs b.ws)
        ⟨_, _, _, _, _, rfl, z1.trans (s7.trans k8), isF.same k8, (s7.trans k8) _ _ z2, k8 _ _ d7, e8, L8⟩ (fun i σ G _ z => ?_) (fun i x σ G hx z => ?_) (fun σ G z => ?_)⟩
      · obtain ⟨c2, c5, c6, c7, ys, rfl, y1, y2, y3, y4, y5, y6⟩ := z
        exact SqL.of y5
      · obtain ⟨c2, c5, c6, c7, ys, rfl, y1, y2, y3, y4, y5, y6⟩ := z
        rw [List.getElem?_map] at hx
        obtain ⟨pr, hpr, rfl⟩ := Option.map_eq_some_iff.mp hx
        obtain ⟨e, he, ek, tt, w, l2, et, st, fw, fl, ⟨yw, hw, lw⟩, yl, hl, ll⟩ := Paired.at2 y6 hpr
        have hi : i < kvs.length := (List.getElem?_eq_some_iff.mp hpr).1
        have lk : kvs.length = b.ws.length := Paired.length z4
        have ndk : (kvs.map (·.1)).Nodup := by
          rw [Paired.map1 (fun _ _ q => q.1) z4]
          exact nodup_inr wf.wd
        have gv : valV kvs pr.1 = some (.ref tt) := by
          rw [← et]
          exact valV_at (i := i) ndk hpr
        have step : ∀ {G : Hp} {q : Addr} {xs : List V} {N : Nat}, Same H G → IsMF K HL G m b → (∃ ys, G l = some (.lst ys)) → G d = some (.dK kvs) → G q2 = some (.lst (kvs.map fun kv => kV kv.1)) → Paired (LAt K (fun a => H a = none ∧ a ≠ q2) G N) kvs b.ws → H q = none → q ≠ q2 → G q = some (.lst xs) → xs.length ≤ N →
            Same H (upd G q (.lst (xs ++ [.str "late"]))) ∧ IsMF K HL (upd G q (.lst (xs ++ [.str "late"]))) m b ∧ (∃ ys, (upd G q (.lst (xs ++ [.str "late"]))) l = some (.lst ys)) ∧ (upd G q (.lst (xs ++ [.str "late"]))) d = some (.dK kvs) ∧ (upd G q (.lst (xs ++ [.str "late"]))) q2 = some (.lst (kvs.map fun kv => kV kv.1)) ∧
              Paired (LAt K (fun a => H a = none ∧ a ≠ q2) (upd G q (.lst (xs ++ [.str "late"]))) (N + 1)) kvs b.ws := fun {G q xs N} v1 v2 v3 v4 v5 v6 v7 v8 v9 v10 => by
          refine ⟨Same.over v1 v7, v2.lst Kp.put v9, ?_, ?_, ?_, Paired.imp2 (fun _ _ h => LAt.app h v9 v10) v6⟩
          · by_cases c : l = q
            · exact ⟨_, by rw [c]; exact upd_same⟩
            · obtain ⟨ys, hy⟩ := v3
              exact ⟨ys, by rw [upd_ne c]; exact hy⟩
          · rw [upd_ne (fun z => by rw [← z, v4] at v9; cases v9)]
            exact v4
          · rw [upd_ne (Ne.symm v8)]
            exact v5
        have small : (5 + 2 * i) + 1 < 1000 := by omega
        refine ⟨_, rfl, _, rfl, d, .ref tt, rfl, by rw [← gv]; exact DGet.k y4, tt, _, 0, .ref w, rfl, rfl, st, rfl, .inl ⟨rfl, _, SqL.of hw⟩, w, _, _, rfl, rfl, hw, Nat.lt_of_lt_of_le (by omega : yw.length < 1000) (by decide), ?_⟩
        obtain ⟨x1, x2, x3, x4, x5, x6⟩ := step y1 y2 ⟨ys, y3⟩ y4 y5 y6 fw.1 fw.2 hw lw
        generalize upd G w (.lst (yw ++ [.str "late"])) = G1 at x1 x2 x3 x4 x5 x6 ⊢
        obtain ⟨e', he', ek', tt', w', l2', et', st', fw', fl', _, yl', hl', ll'⟩ := Paired.at2 x6 hpr
        rw [et] at et'
        cases et'
        refine ⟨_, rfl, _, rfl, d, .ref tt, rfl, by rw [← gv]; exact DGet.k x4, tt, _, 2, .ref l2', rfl, rfl, st', rfl, .inl ⟨rfl, _, SqL.of hl'⟩, l2', _, _, rfl, rfl, hl', Nat.lt_of_lt_of_le (by omega : yl'.length < 1000) (by decide), ?_⟩
        obtain ⟨u1, u2, ⟨u3, u3'⟩, u4, u5, u6⟩ := step x1 x2 x3 x4 x5 x6 fl'.1 fl'.2 hl' ll'
        exact ⟨_, _, _, _, u3, rfl, u1, u2, u3', u4, u5, Paired.imp2 (fun _ _ h => LAt.mono h (by omega)) u6⟩
      · obtain ⟨c2, c5, c6, c7, ys, rfl, y1, y2, y3, y4, y5, y6⟩ := z
        refine ⟨_, rfl, .inr (.inr (.inl ⟨rfl, .inl ⟨_, y4⟩⟩)), d, kvs, rfl, rfl, y4, ?_⟩
        have i1 := y2.dic (Kp.put (o := .dK [])) y4 (sl _ _ z3)
        have o1 := Same.over y1 ndH (o := .dK [])
        have l1 : (upd G d (.dK [])) l = some (.lst ys) := by rw [upd_ne ld]; exact y3
        generalize upd G d (.dK []) = G1 at i1 o1 l1 ⊢
        refine ⟨_, rfl, .inl ⟨rfl, _, SqL.of l1⟩, l, ys, rfl, rfl, l1, ?_⟩
        exact ⟨_, rfl, q _ m (Same.over o1 nl) (i1.lst Kp.put l1).is (none_old z1 nm)⟩

end
end K02

namespace K02
open PySem PySem.Spec PyProof.Rows L2 Gx
section
variable {P : Program} {w : World} {K : PySem.W.Frag} {mg : Str → Option Value} {base : Heap}

def TEnt (K : PySem.W.Frag) (H : Hp) (p : Key × V) (e : Ent) : Prop := p.1 = .inr e.name ∧ ∃ u w l, p.2 = V.ref u ∧ SqT K H u [.ref w, .str e.back, .ref l] ∧ SqT K H w (e.wishes.map V.str) ∧ SqT K H l (e.later.map V.str)
theorem TEnt.ent {K : PySem.W.Frag} {H : Hp} {p : Key × V} {e : Ent} (h : TEnt K H p e) : p.1 = .inr e.name ∧ EntAt K H p.2 e := by
  obtain ⟨a, u, w, l, b, c, d, f⟩ := h
  exact ⟨a, u, .ref w, .ref l, b, c, ⟨w, rfl, .inr d⟩, l, rfl, .inr f⟩
theorem merge_new : ∀ {xs ys : List (Key × V)}, ((ys ++ xs).map (·.1)).Nodup → mergeK ys xs = ys ++ xs
  | [], ys, _ => by simp [mergeK]
  | (k, v) :: xs, ys, nd => by
    have h1 : k ∉ ys.map (·.1) := by
      intro h
      rw [List.map_append, List.nodup_append] at nd
      exact nd.2.2 k h k (by simp) rfl
    have e : mergeK ys ((k, v) :: xs) = mergeK (putK ys k v) xs := rfl
    rw [e, putK_new h1]
    have nd2 : (((ys ++ [(k, v)]) ++ xs).map (·.1)).Nodup := by rw [List.append_assoc]; exact nd
    rw [merge_new nd2, List.append_assoc]
    rfl
theorem ca_law_tuples (F : Facts K mg) : Ca P w K mg base CX0 7 "_law_tuples" (spMade K) := by
  obtain ⟨fd, D⟩ := fun_law_tuples F
  refine ⟨_, fd, ["base"], D.ok sc_law_tuples (fun vs H Q E h => ?_) (fun cdv A outer s H vs Q E hr h => ?_), D.bindsN fun _ _ _ _ _ _ us hl => match us, hl with | [_], _ => rfl, g__law_tuples F, D.kp⟩
  · obtain ⟨_, _, rfl, _⟩ := h
    rfl
  · have hu := hu_of hr
    skip
    refine ⟨_, PSs.nox (pss_one (ps_ret (pe_mk (mk_Menu F) (hr.mono (by decide)) rfl pass0 (pa_cons (pe_ix (ix_tupK (K := K) rfl) (pv 0) pe_int (fun _ _ => rfl)) (pa_cons (pe_callTy (call_dictP rfl) (by rfl) (z_dict F) (by decide +kernel) (pa_cons (pe_lc (own := [("name", 1), ("wishes", 2), ("back", 3), ("later", 4)]) (g := gTup K 4 (gCons (gName 1) (gCons (gName 2) (gCons (gName 3) (gCons (gName 4) gNil))))) rfl sc_law_tuples.nd (pi_tup (pe_ix (ix_tupK (K := K) rfl) (pv 0) pe_int (fun _ _ => rfl))) (blkOk_by (own := [("name", 1), ("wishes", 2), ("back", 3), ("later", 4)]) (N := ["base", "name", "wishes", "back", "later"]) (sc := defScope s_law_tuples) (by decide +kernel)) (fun _ _ _ _ _ => (pg_tup rfl (pgs_cons (pg_name (i := 1) sc_law_tuples.nd rfl (Or.inl rfl)) (pgs_cons (pg_name (i := 2) sc_law_tuples.nd rfl (Or.inl rfl)) (pgs_cons (pg_name (i := 3) sc_law_tuples.nd rfl (Or.inl rfl)) (pgs_cons (pg_name (i := 4) sc_law_tuples.nd rfl (Or.inl rfl)) pgs_nil)))))) (fun _ _ _ _ _ => pts_nil) (fun _ _ _ _ _ => (pe_tup (pa_cons (pv 1) (pa_cons (pe_tup (pa_cons (pv 2) (pa_cons (pv 3) (pa_cons (pv 4) pa_nil)))) pa_nil))))) pa_nil)) pa_nil))))), ?_⟩
    obtain ⟨t, b, rfl, hb, wf, q⟩ := h
    obtain ⟨th, wt, es, h1, h2, h3, h4⟩ := hb
    have few := wf.w4
    have el : es.length = b.ws.length := Paired.length h4
    refine ⟨_, rfl, t, _, 0, _, rfl, rfl, h1, rfl, ?_⟩
    refine ⟨_, rfl, t, _, 1, _, rfl, rfl, h1, rfl, wt, rfl, ⟨_, h3⟩, fun D hD => lc_it walk_tup (fun i H' => Same H H' ∧ ∃ (ps : List Addr) (kvs : List (Key × V)), H' D = some (.lst (ps.map V.ref)) ∧ Paired (fun p (kv : Key × V) => SqT K H' p [kV kv.1, kv.2]) ps kvs ∧ Paired (TEnt K H') kvs (b.ws.take i)) ⟨Same.new hD, [], [], upd_same, .nil, by rw [List.take_zero]; exact .nil⟩ (fun i H' _ z => SqT.same h3 z.1) (fun i x H2 H' hi z y => ?_) (fun H' z => ?_)⟩
    · obtain ⟨rfl, hx⟩ := y
      obtain ⟨z1, ps, kvs, z2, z3, z4⟩ := z
      obtain ⟨e, he, a, w1, l1, rfl, f1, f2, f3⟩ := Paired.at2 h4 hx
      refine ⟨a, _, rfl, SqT.same f1 z1, rfl, _, _, rfl, _, _, rfl, _, _, rfl, _, _, rfl, rfl, rfl, ?_⟩
      refine ⟨_, rfl, _, rfl, _, rfl, _, rfl, (by show 3 ≤ sizeLine; decide), fun u nu => ?_⟩
      generalize gu : upd _ u _ = G1
      obtain ⟨j1, q1, _⟩ := laid gu nu
      refine ⟨(by show 2 ≤ sizeLine; decide), fun v nv => ?_⟩
      generalize gv : upd _ v _ = G2
      obtain ⟨j2, q2, _⟩ := laid gv nv
      have j := j1.trans j2
      have z2' := j _ _ z2
      have lp : ps.length = i := by
        rw [Paired.length z3, Paired.length z4, List.length_take]
        omega
      have nsq : ∀ {a : Addr} {xs : List V}, SqT K G2 a xs → SqT K (upd G2 D (.lst (ps.map V.ref ++ [.ref v]))) a xs := fun {a xs} h => SqT.lstK h Kp.put z2'
      refine ⟨_, z2', by rw [List.length_map]; exact Nat.lt_of_lt_of_le (by omega : ps.length < 1000) (by decide), Same.over (z1.trans j) hD, ps ++ [v], kvs ++ [(.inr e.name, .ref u)], by rw [upd_same, List.map_append]; rfl, Paired.snoc (Paired.imp2 (fun _ _ h => nsq (SqT.same h j)) z3) (show SqT K _ v [kV ((Sum.inr e.name : Key), V.ref u).1, ((Sum.inr e.name : Key), V.ref u).2] from nsq (.inl (.inl q2))), ?_⟩
      rw [List.take_succ, he]
      exact Paired.snoc (Paired.imp2 (fun _ _ ⟨h5, u5, w5, l5, h6, h7, h8, h9⟩ => ⟨h5, u5, w5, l5, h6, nsq (SqT.same h7 j), nsq (SqT.same h8 j), nsq (SqT.same h9 j)⟩) z4) ⟨rfl, u, w1, l1, rfl, nsq (SqT.same (.inl (.inl q1)) j2), nsq (SqT.same f2 (z1.trans j)), nsq (SqT.same f3 (z1.trans j))⟩
    · obtain ⟨z1, ps, kvs, z2, z3, z4⟩ := z
      rw [el, List.take_length] at z4
      have hk : kvs.map (·.1) = (b.ws.map Ent.name).map Sum.inr := Paired.map1 (fun _ _ q => q.1) z4
      have ndk : (kvs.map (·.1)).Nodup := by rw [hk]; exact nodup_inr wf.wd
      refine ⟨D, ps, kvs, rfl, SqL.of z2, z3, fun d nd => ?_⟩
      rw [show mergeK [] kvs = kvs from merge_new ndk]
      generalize gd : upd _ d _ = H3
      obtain ⟨k3, e3, _⟩ := laid gd nd
      intro m dx nm ndx ne
      generalize gL : upd (upd H3 dx (.own m)) m _ = HL
      have sl : Same H3 HL := fun a o h => by rw [← gL, upd_ne (ne_of_none h nm), upd_ne (ne_of_none h ndx)]; exact h
      have a1 : HL m = some (.ins (He.ga K "Menu") dx []) := by rw [← gL]; exact upd_same
      have a2 : HL dx = some (.own m) := by rw [← gL, upd_ne ne]; exact upd_same
      have S3 := z1.trans k3
      refine ⟨m, dx, .ref th, d, b, kvs, rfl, a1, a2, sl _ _ e3, EntsAt.same (Paired.imp2 (fun _ _ h => h.ent) z4) (k3.trans sl), ⟨th, rfl, .inr (SqT.same h2 (S3.trans sl))⟩, wf, fun H7 kp isF => ⟨rfl, ?_⟩⟩
      have s7 : Same H3 H7 := fun a o h => kp _ _ (ne_of_none h nm) (sl _ _ h)
      exact q _ m (S3.trans s7) isF.is (none_old S3 nm)

end
end K02

namespace K02
open PySem PySem.Spec PyProof.Rows L2 Gx
section
variable {P : Program} {w : World} {K : PySem.W.Frag} {mg : Str → Option Value} {base : Heap}

def spSame (K : PySem.W.Frag) : Sp := fun vs H Q _ => ∃ t u b c, vs = [.ref t, .ref u] ∧ BaseAt K H t b ∧ BaseAt K H u c ∧ WF b ∧ WF c ∧ Q (.bl (decide (b = c))) H
def dE (e : Ent) : PyData := .tuple [.str e.name, dT e.wishes, .str e.back, dT e.later]
theorem eqv_es : ∀ ws vs : List Ent, PyData.eqvAll (ws.map dE) (vs.map dE) = decide (ws = vs)
  | [], [] => by simp [PyData.eqvAll]
  | [], _ :: _ => by simp [PyData.eqvAll]
  | _ :: _, [] => by simp [PyData.eqvAll]
  | ⟨n, w, k, l⟩ :: ws, ⟨n2, w2, k2, l2⟩ :: vs => by
    have e : PyData.eqvAll ((⟨n, w, k, l⟩ :: ws : List Ent).map dE) ((⟨n2, w2, k2, l2⟩ :: vs : List Ent).map dE) = (((n == n2) && (PyData.eqv (dT w) (dT w2) && ((k == k2) && (PyData.eqv (dT l) (dT l2) && true)))) && PyData.eqvAll (ws.map dE) (vs.map dE)) := by
      simp only [List.map_cons, dE, PyData.eqvAll, PyData.eqv]
    rw [e, eqv_es ws vs, eqv_t, eqv_t, beq_str, beq_str]
    simp [Bool.and_assoc, and_assoc]
theorem lay_t {xs : List Str} (h : ∀ x ∈ xs, okS x) : PyData.canLay0 (dT xs) = true := by
  unfold dT
  simp only [PyData.canLay0]
  exact lay_str h
theorem depth_t (xs : List Str) : PyData.depth (dT xs) = 1 := by
  unfold dT
  simp only [PyData.depth, depth_str]
theorem lay_es {b : Bs} (wf : WF b) : ∀ {ws : List Ent}, (∀ e ∈ ws, e ∈ b.ws) → PyData.canLayAll0 (ws.map dE) = true
  | [], _ => by simp [PyData.canLayAll0]
  | e :: ws, h => by
    have k := wf.okW (h e List.mem_cons_self)
    have nm : okS e.name := wf.okN _ (List.mem_map.mpr ⟨e, h e List.mem_cons_self, rfl⟩)
    simp only [List.map_cons, PyData.canLayAll0, Bool.and_eq_true, dE, PyData.canLay0]
    exact ⟨⟨nm, lay_t k.1, k.2.1, lay_t k.2.2, trivial⟩, lay_es wf fun x hx => h x (List.mem_cons_of_mem _ hx)⟩
theorem depth_es : ∀ ws : List Ent, PyData.depthAll (ws.map dE) ≤ 2
  | [] => by simp [PyData.depthAll]
  | e :: ws => by
    have h := depth_es ws
    simp only [List.map_cons, PyData.depthAll, dE, PyData.depth, depth_t]
    omega
theorem shape_es {b : Bs} (wf : WF b) : SeqAt.shaped (.tuple (b.ws.map dE)) = true := by
  unfold SeqAt.shaped
  rw [Bool.and_eq_true]
  refine ⟨by simp only [PyData.canLay0]; exact lay_es wf fun _ h => h, decide_eq_true ?_⟩
  have := depth_es b.ws
  simp only [PyData.depth]
  omega
theorem dp_es {K : PySem.W.Frag} {H : Hp} : ∀ {es : List V} {ws : List Ent}, Paired (EAt K H) es ws → DpAll K H es (ws.map dE)
  | _, _, .nil => .nil
  | _, _, .cons ⟨a, w, l, e, h1, h2, h3⟩ t => by
    subst e
    exact .cons (.tup h1 (.cons (.str _) (.cons (dp_t h2) (.cons (.str _) (.cons (dp_t h3) .nil))))) (dp_es t)
def spRefused (K : PySem.W.Frag) : Sp := fun vs H Q _ => ∃ (way : Int) (m : Addr) (b : Bs) (x : V), vs = [.int way, .ref m, x] ∧ IsM K H m b ∧ b.names.Nodup ∧ BadX K H b x ∧ ∀ H' q, Same H H' → H' q = some (.lst [x]) → H q = none → Q (.ref q) H'
theorem ca_law_same (F : Facts K mg) : Ca P w K mg base CX0 1 "_law_same" (spSame K) := by
  obtain ⟨fd, D⟩ := fun_law_same F
  refine ⟨_, fd, ["one", "two"], D.ok sc_law_same (fun vs H Q E h => ?_) (fun cdv A outer s H vs Q E hr h => ?_), D.bindsN fun _ _ _ _ _ _ us hl => match us, hl with | [_, _], _ => rfl, g__law_same F, D.kp⟩
  · obtain ⟨_, _, _, _, rfl, _⟩ := h
    rfl
  · have hu := hu_of hr
    skip
    refine ⟨_, PSs.nox (pss_one (ps_ret (pe_and (pe_cmpR (op_eqD hr.units) (pe_ix (ix_tupK (K := K) rfl) (pv 0) pe_int (fun _ _ => rfl)) (pe_ix (ix_tupK (K := K) rfl) (pv 1) pe_int (fun _ _ => rfl)) (nomark _)) (pe_one (pe_cmpR (op_eqD hr.units) (pe_ix (ix_tupK (K := K) rfl) (pv 0) pe_int (fun _ _ => rfl)) (pe_ix (ix_tupK (K := K) rfl) (pv 1) pe_int (fun _ _ => rfl)) (nomark _)))))), ?_⟩
    obtain ⟨t, u, b, c, rfl, ⟨a1, a2, a3, h1, h2, h3, h4⟩, ⟨b1, b2, b3, g1, g2, g3, g4⟩, wf, wg, q⟩ := h
    refine ⟨_, rfl, t, _, 0, _, rfl, rfl, h1, rfl, _, rfl, u, _, 0, _, rfl, rfl, g1, rfl, _, _, dp_t h2, dp_t g2, shape_t wf.okT, shape_t wg.okT, ?_⟩
    rw [eqv_t]
    refine ⟨_, rfl, ?_⟩
    have E : decide (b = c) = (decide (b.things = c.things) && decide (b.ws = c.ws)) := by
      obtain ⟨x, y⟩ := b
      obtain ⟨x2, y2⟩ := c
      rw [Bool.eq_iff_iff]
      simp
    rw [E] at q
    cases z1 : decide (b.things = c.things) with
    | false =>
      rw [z1] at q
      exact q
    | true =>
    rw [z1] at q
    refine ⟨_, rfl, t, _, 1, _, rfl, rfl, h1, rfl, _, rfl, u, _, 1, _, rfl, rfl, g1, rfl, _, _, .tup h3 (dp_es h4), .tup g3 (dp_es g4), shape_es wf, shape_es wg, ?_⟩
    rw [show PyData.eqv (.tuple (b.ws.map dE)) (.tuple (c.ws.map dE)) = PyData.eqvAll (b.ws.map dE) (c.ws.map dE) from by simp only [PyData.eqv], eqv_es]
    exact q

theorem ca_law_refused (F : Facts K mg) : Ca P w K mg base CX0 5 "_law_refused" (spRefused K) := by
  obtain ⟨fd, D⟩ := fun_law_refused F
  refine ⟨_, fd, ["way", "menu", "thing"], D.ok sc_law_refused (fun vs H Q E h => ?_) (fun cdv A outer s H vs Q E hr h => ?_), D.bindsN fun _ _ _ _ _ _ us hl => match us, hl with | [_, _, _], _ => rfl, g__law_refused F, D.kp⟩
  · obtain ⟨_, _, _, _, rfl, _⟩ := h
    rfl
  · have hu := hu_of hr
    skip
    refine ⟨_, PSs.nox (pss_cons (ps_set (i := 3) sc_law_refused.nd rfl (Or.inl rfl) pe_non)
    (pss_cons (ps_try_as (i := 4) rfl rfl sc_law_refused.nd rfl rfl ⟨rfl, by decide, .inl (g_BadWeather F)⟩ takes0 (fun W pn xe tk _ => (pss_one (ps_if (pt_cmpR op_eq (pv 0) pe_int (nomark _)) (pss_one (ps_expr (pe_cmS (cm_Menu_wishes F) (hr.mono (by decide)) (fun σ => passAt tk σ) (pv 1) (pa_cons (pv 2) pa_nil)))) (pss_one (ps_if (pt_cmpR op_eq (pv 0) pe_int (nomark _)) (pss_one (ps_expr (pe_cmS (cm_Menu_back F) (hr.mono (by decide)) (fun σ => passAt tk σ) (pv 1) (pa_cons (pv 2) pa_nil)))) (pss_one (ps_expr (pe_cmS (cm_Menu_later F) (hr.mono (by decide)) (fun σ => passAt tk σ) (pv 1) (pa_cons (pv 2) pa_nil))))))))) (fun a oe cls d pn hz hf => (pss_one (ps_set (i := 3) sc_law_refused.nd rfl (Or.inl rfl) (pe_lst (pa_cons (pe_xf (exb F).X (exb F).no hz hf (pv 4)) pa_nil))))))
    (pss_one (ps_ret (pv 3))))), ?_⟩
    obtain ⟨way, m, b, x, rfl, hM, nd, bad, q⟩ := h
    have hM2 := hM
    obtain ⟨dx, t1, t2, d1, d2, d3, k1, k3, hm, hdx, h1, h2, h3, h4, h5, h6, h7⟩ := hM
    refine ⟨_, rfl, rfl, _, rfl, ?_⟩
    refine ite2 (fun c => ?_) (fun c => ?_)
    · refine ⟨_, rfl, m, dx, _, rfl, hm, rfl, _, rfl, m, b, x, rfl, hM2, nd, .inr ⟨bad, fun d H1 nd1 k1 ed => ⟨true, exm F, fun _ a na => ?_, fun z => nomatch z⟩⟩⟩
      refine ⟨_, rfl, rfl, rfl, d, _, x, rfl, ed, rfl, (by show 1 ≤ sizeLine; decide), fun l nl => ?_⟩
      exact ⟨_, rfl, q _ l (Same.over k1 (none_old k1 nl)) upd_same (none_old k1 nl)⟩
    · refine ⟨_, rfl, rfl, _, rfl, ?_⟩
      refine ite2 (fun c2 => ?_) (fun c2 => ?_)
      · refine ⟨_, rfl, m, dx, _, rfl, hm, rfl, _, rfl, m, b, x, rfl, hM2, nd, .inr ⟨bad, fun d H1 nd1 k1 ed => ⟨true, exm F, fun _ a na => ?_, fun z => nomatch z⟩⟩⟩
        refine ⟨_, rfl, rfl, rfl, d, _, x, rfl, ed, rfl, (by show 1 ≤ sizeLine; decide), fun l nl => ?_⟩
        exact ⟨_, rfl, q _ l (Same.over k1 (none_old k1 nl)) upd_same (none_old k1 nl)⟩
      · refine ⟨_, rfl, m, dx, _, rfl, hm, rfl, _, rfl, m, b, x, rfl, hM2, nd, .inr ⟨bad, fun d H1 nd1 k1 ed => ⟨true, exm F, fun _ a na => ?_, fun z => nomatch z⟩⟩⟩
        refine ⟨_, rfl, rfl, rfl, d, _, x, rfl, ed, rfl, (by show 1 ≤ sizeLine; decide), fun l nl => ?_⟩
        exact ⟨_, rfl, q _ l (Same.over k1 (none_old k1 nl)) upd_same (none_old k1 nl)⟩

end
end K02

namespace K02
open PySem PySem.Spec PyProof.Rows L2 Gx
section
variable {P : Program} {w : World} {K : PySem.W.Frag} {mg : Str → Option Value} {base : Heap}

def ten : List Str := ["sock", "belt", "scarf", "glove", "tie", "cap", "ring", "shoe", "vest", "shawl"]
theorem ten_nd : ten.Nodup := by decide +kernel
theorem ten_nm : ∀ x ∈ ten, NM x := by
  have h : ten.all nmB = true := by decide +kernel
  exact fun x hx => nmB_ok (List.all_eq_true.mp h x hx)
def spStr (K : PySem.W.Frag) : Sp := fun vs H Q _ => ∃ t b, vs = [.ref t] ∧ BaseAt K H t b ∧ WF b ∧ ∀ H' x, Same H H' → NM x → x ∉ b.things → x ∉ b.names → Q (.str x) H'
theorem ca_law_stranger (F : Facts K mg) : Ca P w K mg base CX0 1 "_law_stranger" (spStr K) := by
  obtain ⟨fd, D⟩ := fun_law_stranger F
  refine ⟨_, fd, ["base"], D.ok sc_law_stranger (fun vs H Q E h => ?_) (fun cdv A outer s H vs Q E hr h => ?_), D.bindsN fun _ _ _ _ _ _ us hl => match us, hl with | [_], _ => rfl, g__law_stranger F, D.kp⟩
  · obtain ⟨_, _, rfl, _⟩ := h
    rfl
  · have hu := hu_of hr
    skip
    refine ⟨_, PSs.nox (pss_cons (ps_set (i := 1) sc_law_stranger.nd rfl (Or.inr rfl) (pe_op op_cat (pe_callTy call_list_of (by rfl) (z_list F) (by decide +kernel) (pa_cons (pe_ix (ix_tupK (K := K) rfl) (pv 0) pe_int (fun _ _ => rfl)) pa_nil)) (pe_lc (own := [("entry", 3)]) (g := gName 3) rfl sc_law_stranger.nd (pi_tup (pe_ix (ix_tupK (K := K) rfl) (pv 0) pe_int (fun _ _ => rfl))) (blkOk_by (own := [("entry", 3)]) (N := ["base", "used", "some", "entry", "name"]) (sc := defScope s_law_stranger) (by decide +kernel)) (fun _ _ _ _ _ => (pg_name (i := 3) sc_law_stranger.nd rfl (Or.inl rfl))) (fun _ _ _ _ _ => pts_nil) (fun _ _ _ _ _ => (pe_ix (ix_tupK (K := K) rfl) (pv 3) pe_int (fun _ _ => rfl))))))
    (pss_cons (ps_set (i := 2) sc_law_stranger.nd rfl (Or.inl rfl) (pe_lst (pa_cons pe_str (pa_cons pe_str (pa_cons pe_str (pa_cons pe_str (pa_cons pe_str (pa_cons pe_str (pa_cons pe_str (pa_cons pe_str (pa_cons pe_str (pa_cons pe_str pa_nil))))))))))))
    (pss_one (ps_ret (pe_ix (ix_listK (K := K) rfl) (pe_lc (own := [("name", 4)]) (g := gName 4) rfl sc_law_stranger.nd (pi_list (pv 2)) (blkOk_by (own := [("name", 4)]) (N := ["base", "used", "some", "entry", "name"]) (sc := defScope s_law_stranger) (by decide +kernel)) (fun _ _ _ _ _ => (pg_name (i := 4) sc_law_stranger.nd rfl (Or.inl rfl))) (fun _ _ _ _ _ => (pts_one (pt_cmpR (op_notIn_seqK (K := K) rfl) (pv 4) (pv 1) (by rfl)))) (fun _ _ _ _ _ => (pv 4))) pe_int (fun _ _ => rfl)))))), ?_⟩
    obtain ⟨t, b, rfl, ⟨th, wt, es, h1, h2, h3, h4⟩, wf, q⟩ := h
    have el : es.length = b.ws.length := Paired.length h4
    have w4 := wf.w4
    have t5 := wf.t5
    refine ⟨_, rfl, t, _, 0, _, rfl, rfl, h1, rfl, th, _, rfl, .inr h2, fun l1 n1 => ?_⟩
    generalize g1 : upd _ l1 _ = H1
    obtain ⟨k1, e1, _⟩ := laid g1 n1
    refine ⟨_, rfl, t, _, 1, _, rfl, rfl, SqT.same h1 k1, rfl, wt, rfl, ⟨_, SqT.same h3 k1⟩, fun D hD => lc_it walk_tup (fun i H' => Same H1 H' ∧ H' D = some (.lst ((b.names.take i).map V.str))) ⟨Same.new hD, by rw [List.take_zero]; exact upd_same⟩ (fun i H' _ z => SqT.same h3 (k1.trans z.1)) (fun i x H2 H' hi z y => ?_) (fun H2 z => ?_)⟩
    · obtain ⟨rfl, hx⟩ := y
      obtain ⟨z1, z2⟩ := z
      obtain ⟨e, he, a, w1, l2, rfl, f1, f2, f3⟩ := Paired.at2 h4 hx
      have lz : (((b.names.take i).map V.str)).length < 1000 := by rw [List.length_map, List.length_take]; omega
      refine ⟨rfl, ?_⟩
      refine ⟨_, rfl, a, _, 0, _, rfl, rfl, SqT.same f1 (k1.trans z1), rfl, _, z2, Nat.lt_of_lt_of_le lz (by decide), Same.over z1 hD, ?_⟩
      rw [upd_same, List.take_succ]
      unfold Bs.names
      rw [List.getElem?_map, he]
      simp
    · obtain ⟨z1, z2⟩ := z
      rw [show b.names.take es.length = b.names from by unfold Bs.names; rw [el]; exact List.take_of_length_le (by simp)] at z2
      have e1' := z1 _ _ e1
      have len : (b.things.map V.str).length + (b.names.map V.str).length ≤ sizeLine := by
        rw [sizeLine_eq]
        unfold Bs.names
        simp only [List.length_map]
        omega
      refine ⟨l1, D, _, _, rfl, rfl, e1', z2, len, fun u nu => ?_⟩
      generalize g3 : upd _ u _ = H3
      obtain ⟨k3, e3, _⟩ := laid g3 nu
      rw [← List.map_append] at e3
      refine ⟨(by show 10 ≤ sizeLine; decide), fun v nv => ?_⟩
      generalize g4 : upd _ v _ = H4
      obtain ⟨k4, e4, _⟩ := laid g4 nv
      have e4' : H4 v = some (.lst (ten.map V.str)) := e4
      have e3' := k4 _ _ e3
      have S4 : Same H H4 := (k1.trans z1).trans (k3.trans k4)
      refine ⟨_, rfl, v, rfl, ⟨_, SqL.of e4'⟩, fun D2 hD2 => lc_it walk_list (fun i H' => Same H4 H' ∧ H' D2 = some (.lst (((ten.take i).filter fun x => !decide (x ∈ b.things ++ b.names)).map V.str))) ⟨Same.new hD2, by rw [List.take_zero]; exact upd_same⟩ (fun i H' _ z => SqL.of (z.1 _ _ e4')) (fun i x H5 H6 hi z y => ?_) (fun H6 z => ?_)⟩
      · obtain ⟨rfl, hx⟩ := y
        obtain ⟨y1, y2⟩ := z
        rw [List.getElem?_map] at hx
        obtain ⟨nm, hnm, rfl⟩ := Option.map_eq_some_iff.mp hx
        refine ⟨rfl, ?_⟩
        refine ⟨_, rfl, _, rfl, u, _, rfl, .inl (SqL.of (y1 _ _ e3')), rfl, flat_texts _, ?_⟩
        rw [show (if true = true then !inV (.str nm) ((b.things ++ b.names).map V.str) else inV (.str nm) ((b.things ++ b.names).map V.str)) = !decide (nm ∈ b.things ++ b.names) from by rw [in_texts]; rfl]
        refine ⟨_, rfl, ?_⟩
        have stp : (ten.take (i + 1)).filter (fun x => !decide (x ∈ b.things ++ b.names)) = (ten.take i).filter (fun x => !decide (x ∈ b.things ++ b.names)) ++ (if (!decide (nm ∈ b.things ++ b.names)) = true then [nm] else []) := by
          rw [List.take_succ, hnm, List.filter_append]
          simp only [Option.toList_some, List.filter_cons, List.filter_nil]
        cases c : (!decide (nm ∈ b.things ++ b.names)) with
        | true =>
          refine ⟨_, rfl, _, y2, ?_, Same.over y1 hD2, ?_⟩
          · refine Nat.lt_of_lt_of_le (Nat.lt_of_le_of_lt (m := 10) ?_ (by decide)) (Nat.le_refl _)
            rw [List.length_map]
            refine Nat.le_trans (List.length_filter_le _ _) ?_
            rw [List.length_take]
            have : ten.length = 10 := rfl
            omega
          · rw [upd_same, stp, c]
            simp
        | false =>
          refine ⟨y1, ?_⟩
          rw [y2, stp, c]
          simp
      · obtain ⟨y1, y2⟩ := z
        rw [show ten.take (ten.map V.str).length = ten from by rw [List.length_map, List.take_length]] at y2
        have ne : ten.filter (fun x => !decide (x ∈ b.things ++ b.names)) ≠ [] := fun z => by
          have sub : ∀ x ∈ ten, x ∈ b.things ++ b.names := fun x hx => by
            have h9 := List.filter_eq_nil_iff.mp z x hx
            by_cases c : x ∈ b.things ++ b.names
            · exact c
            · exact absurd (by rw [decide_eq_false c]; rfl) h9
          have := nodup_len ten_nd sub
          rw [List.length_append] at this
          unfold Bs.names at this
          rw [List.length_map] at this
          have : ten.length = 10 := rfl
          omega
        obtain ⟨x, xs, ex⟩ := List.exists_cons_of_ne_nil ne
        rw [ex] at y2
        have hm : x ∈ ten.filter (fun x => !decide (x ∈ b.things ++ b.names)) := by rw [ex]; exact List.mem_cons_self
        obtain ⟨m1, m2⟩ := List.mem_filter.mp hm
        have m3 : x ∉ b.things ++ b.names := by simpa using m2
        refine ⟨D2, _, 0, .str x, rfl, rfl, SqL.of y2, atI_nat (j := 0) rfl, ?_⟩
        exact q _ x (S4.trans y1) (ten_nm x m1) (fun h => m3 (List.mem_append_left _ h)) (fun h => m3 (List.mem_append_right _ h))

end
end K02

/-! tuples cut, put together and turned round, whatever their length -/
namespace Gx
open PySem PySem.Spec PyProof.Rows L2
open PySem.SeqAt PySem.MeetsSeq PySem.MeetsSeq2 PySem.MeetsSeq3
section
variable {P : Program} {w : World} {A : Around} {E : Value → Shared → Prop} {s : Shared}
/-- t[lo:hi] that is the whole of t is t -/
theorem item_whole {t sl : Addr} {items : Array Value} {vl vu : Value} {lo hi : Option Int} {Q : Value → Shared → Prop} (ht : IsTup s.heap t items) (hs : s.heap.IsSliceOf sl vl vu .none) (pl : IsPart vl lo) (pu : IsPart vu hi)
    (hw : HT.sIx items.size 0 lo = 0 ∧ HT.sIx items.size items.size hi = items.size) (h : Q (.ref t) s) : wpAny (model P w) A (getItem (.ref t) (.ref sl)) Q E s := by
  obtain ⟨os, hos, hcs, hds⟩ := id hs
  have ts : s.TypeIs (.ref sl) "slice" := ⟨os, hos, hcs⟩
  unfold getItem
  try with_reducible refine wpAny_holding ?_
  first | refine wpAny_bind (wpAny_pure ?_) | skip
  refine wpAny_bind (wpAny_sequenceKey ht.typeIs (by decide) ?_)
  refine wpAny_bind (wpAny_callSpecial?_slot (name := Str.ofString "__getitem__") ht.typeIs PyProof.Rows.slot_tuple_getitem (wpAny_call_entry PyProof.Rows.slot_tuple_getitem ht.typeIs PyProof.Rows.entry_tuple_getitem ?_ (PyProof.Rows.args_tuple_getitem _ _)))
  show wpAny _ _ (Builtin.Tuple.tupleItemsOf (.ref t) >>= _) _ _ s
  refine wpAny_bind (tupleItemsOf_ ht ?_)
  refine wpAny_bind (wpAny_typeOf ts ?_)
  rw [if_pos (by decide)]
  refine wpAny_bind (HT.sliceApplied_gen hs pl pu ?_)
  have yes : ((((HT.sIx items.size 0 lo : Nat) : Int) == 0 && (1 : Int) == 1 && (HT.sIx items.size items.size hi - HT.sIx items.size 0 lo) == items.size) = true) := by
    rw [hw.1, hw.2]
    simp
  show wpAny _ _ (if (((HT.sIx items.size 0 lo : Nat) : Int) == 0 && (1 : Int) == 1 && (HT.sIx items.size items.size hi - HT.sIx items.size 0 lo) == items.size) = true then _ else _) _ _ s
  rw [if_pos yes]
  refine wpAny_bind ?_
  unfold Builtin.Tuple.tupleIsExact
  refine wpAny_bind (wpAny_typeOf ht.typeIs (wpAny_pure ?_))
  rw [if_pos (by decide)]
  exact wpAny_bind (wpAny_rule (wpAny_pure ⟨_, rfl, wpAny_pure h⟩))
end
/-- t[lo:hi] of a tuple, whatever its length -/
def rSlA (K : PySem.W.Frag) : V → Option Int → Option Int → Hp → VK → Prop := fun x lo hi H Q => ∃ a xs, x = .ref a ∧ SqT K H a xs ∧ ∀ t H', Same H H' → SqT K H' t (cutV xs lo hi) → Q (.ref t) H'
theorem sl_tupA {X : Cx} : SlR X (rSlA X.K) := by
  intro pins s σ H x v vl vu lo hi sl Q I rx hs pl pu h
  obtain ⟨a, xs, rfl, hx, q⟩ := h
  by_cases hw : HT.sIx xs.length 0 lo = 0 ∧ HT.sIx xs.length xs.length hi = xs.length
  · cases rx
    obtain ⟨its, r, ht, hz⟩ := I.tuple hx
    have hl : its.toArray.size = xs.length := by rw [List.size_toArray]; exact r.length.symm
    refine ⟨"tuple", _, PyProof.Rows.slot_tuple_getitem.lookup, ht.typeIs, item_whole ht hs pl pu (by rw [hl]; exact hw) ?_⟩
    have e : cutV xs lo hi = xs := by
      unfold cutV
      rw [hw.1, hw.2, List.drop_zero, Nat.sub_zero, List.take_length]
    exact ⟨.ref a, H, I, rfl, q a H (Same.refl H) (by rw [e]; exact hx)⟩
  · exact sl_tup pins s σ H (.ref a) v vl vu lo hi sl Q I rx hs pl pu ⟨a, xs, rfl, hx, hw, fun p hp => q p _ (Same.new hp) (.inl (.inl upd_same))⟩
theorem sl_tupAK {X : Cx} {K : PySem.W.Frag} (h : X.K = K) : SlR X (rSlA K) := h ▸ sl_tupA
theorem add_empty (l b : Addr) (items items2 : Array Value) (n n2 : Nat) (dd dd2 : Option Addr) (sl sl2 : Array (Option Value)) (hc0 : items.isEmpty = true) :
    Meets (Builtin.«tuple.__add__» ⟨[.ref l, .ref b], []⟩) (fun _ R s => s.heap.get? l = some { cls := .type "tuple", dict := dd, data := .seq items n, slots := sl } ∧ s.heap.get? b = some { cls := .type "tuple", dict := dd2, data := .seq items2 n2, slots := sl2 } ∧ R (.ok (.ret (Value.ref b))) s) :=
  .of_wp fun prog w A R s h => by
    obtain ⟨hp, g, d, tk, os⟩ := s
    obtain ⟨hl, hb, h⟩ := h
    have f1 := AutoSeq1.idx_int
    have f2 := AutoSeq1.sub_tuple_tuple
    have f3 := AutoSeq1.sub_list_list
    have f4 := AutoSeq1.sub_tuple_list
    have f5 := AutoSeq1.sub_list_tuple
    wp_walk using AutoSeq1.wpAny_loadPart' hl, AutoSeq1.wpAny_loadPart' hb
    exact ⟨_, rfl, h⟩
/-- t + u of tuples, whatever their length -/
def rCatA (K : PySem.W.Frag) : R2 := fun x y H Q => ∃ a b xs ys, x = .ref a ∧ y = .ref b ∧ SqT K H a xs ∧ SqT K H b ys ∧ xs.length + ys.length ≤ sizeLine ∧ ∀ t H', Same H H' → SqT K H' t (xs ++ ys) → Q (.ref t) H'
theorem op_catA {X : Cx} : OpR X (binaryOp .Add) (rCatA X.K) := by
  intro pins s σ H x y v u Q I rx ry h
  obtain ⟨a, b, xs, ys, rfl, rfl, ha, hb, hz, q⟩ := h
  by_cases hx : xs = []
  · subst hx
    cases rx
    cases ry
    obtain ⟨its, r1, p1, _⟩ := I.tuple ha
    obtain ⟨its2, r2, p2, _⟩ := I.tuple hb
    have he : its = [] := r1.nil_iff.mpr rfl
    obtain ⟨⟨c1, dd, dt, sl⟩, ho, hc, n, hd⟩ := id p1
    obtain ⟨⟨c2, dd2, dt2, sl2⟩, ho2, hc2, n2, hd2⟩ := id p2
    simp only at hc hd hc2 hd2
    subst hc hd hc2 hd2
    exact concat_meets ⟨_, ho, rfl⟩ ⟨_, ho2, rfl⟩ noFill_tuple_add seq_tuple_add PySem.F.slot_tuple_add PySem.F.entry_tuple_add (PySem.F.args_tuple_add_2 _ _) (add_empty a b its.toArray its2.toArray n n2 dd dd2 sl sl2 (by simp [he])) ⟨ho, ho2, ⟨.ref b, H, I, rfl, q b H (Same.refl H) hb⟩⟩
  · exact op_catT pins s σ H (.ref a) (.ref b) v u Q I rx ry ⟨a, b, xs, ys, rfl, rfl, ha, hb, hx, hz, fun e => q a H (Same.refl H) (by rw [e, List.append_nil]; exact ha), fun _ p hp => q p _ (Same.new hp) (.inl (.inl upd_same))⟩
theorem op_catAK {X : Cx} {K : PySem.W.Frag} (h : X.K = K) : OpR X (binaryOp .Add) (rCatA K) := h ▸ op_catA
end Gx

/-! tuples turned round -/
namespace Gx
open PySem PySem.Spec PyProof.Rows L2
open PySem.SeqAt PySem.MeetsSeq PySem.MeetsSeq2 PySem.MeetsSeq3
section
variable {P : Program} {w : World} {A : Around} {E : Value → Shared → Prop} {s : Shared}
theorem adjust_rev (n : Nat) : Builtin.Slice.sliceAdjust none none (-1) (n : Int) = ((n : Int) - 1, -1) := by
  unfold Builtin.Slice.sliceAdjust
  simp
theorem places_rev (n : Nat) : Builtin.Slice.slicePlaces ((n : Int) - 1) (-1) (-1) = n := by
  unfold Builtin.Slice.slicePlaces
  simp
  omega
theorem applied_rev {sl : Addr} {vl vu vs : Value} {n : Nat} {Q : Int × Int × Nat → Shared → Prop} (hs : s.heap.IsSliceOf sl vl vu vs) (pl : IsPart vl none) (pu : IsPart vu none) (ps : IsPart vs (some (-1)))
    (h : Q ((n : Int) - 1, -1, n) s) : wpAny (model P w) A (Builtin.Slice.sliceApplied (.ref sl) (pure (n : Int))) Q E s := by
  obtain ⟨os, hos, hcs, hds⟩ := id hs
  unfold Builtin.Slice.sliceApplied Builtin.Slice.sliceFields
  refine wpAny_bind (wpAny_bind (wpAny_field hos hds (x := vl) rfl (wpAny_bind (wpAny_field hos hds (x := vu) rfl (wpAny_bind (wpAny_field hos hds (x := vs) rfl (wpAny_pure ?_)))))))
  refine wpAny_bind (HT.slicePart_ ps ?_)
  show wpAny _ _ (if ((-1 : Int) == 0) = true then _ else _) _ _ s
  rw [if_neg (by decide)]
  refine wpAny_bind (HT.slicePart_ pl (wpAny_bind (HT.slicePart_ pu (wpAny_bind (wpAny_pure ?_)))))
  show wpAny _ _ (match Builtin.Slice.sliceAdjust none none (-1) (n : Int) with | (lo, hi) => pure (lo, (-1 : Int), Builtin.Slice.slicePlaces lo hi (-1))) _ _ s
  rw [adjust_rev n]
  show wpAny _ _ (pure ((n : Int) - 1, (-1 : Int), Builtin.Slice.slicePlaces ((n : Int) - 1) (-1) (-1))) _ _ s
  rw [places_rev]
  exact wpAny_pure h
theorem fm_congr {α β : Type} {f g : α → Option β} : ∀ {l : List α}, (∀ x ∈ l, f x = g x) → l.filterMap f = l.filterMap g
  | [], _ => rfl
  | x :: l, h => by rw [List.filterMap_cons, List.filterMap_cons, h x List.mem_cons_self, fm_congr fun y hy => h y (List.mem_cons_of_mem _ hy)]
theorem pick_rev (xs : List Value) : ((List.range xs.toArray.size).filterMap fun (k : Nat) => xs.toArray[((xs.toArray.size : Int) - 1 + (k : Int) * -1).toNat]?).toArray = xs.reverse.toArray := by
  congr 1
  apply List.ext_getElem?
  intro i
  have e : (List.range xs.toArray.size).filterMap (fun (k : Nat) => xs.toArray[((xs.toArray.size : Int) - 1 + (k : Int) * -1).toNat]?) = (List.range xs.length).map (fun k => xs.getD (xs.length - 1 - k) .none) := by
    rw [← List.filterMap_eq_map]
    simp only [List.size_toArray]
    refine fm_congr fun k hk => ?_
    have hk2 := List.mem_range.mp hk
    have h1 : ((xs.length : Int) - 1 + (k : Int) * -1).toNat = xs.length - 1 - k := by omega
    rw [h1]
    simp only [List.getElem?_toArray, Function.comp]
    rw [List.getElem?_eq_getElem (by omega)]
    simp [List.getD, List.getElem?_eq_getElem (show xs.length - 1 - k < xs.length by omega)]
  rw [e, List.getElem?_map]
  by_cases hi : i < xs.length
  · rw [List.getElem?_range hi, List.getElem?_reverse hi]
    simp [List.getD, List.getElem?_eq_getElem (show xs.length - 1 - i < xs.length by omega)]
  · rw [List.getElem?_eq_none (by simpa using hi), List.getElem?_eq_none (by simpa using hi)]
    rfl
theorem item_rev {t sl : Addr} {items : List Value} {vl vu vs : Value} {Q : Value → Shared → Prop} (ht : IsTup s.heap t items.toArray) (hs : s.heap.IsSliceOf sl vl vu vs) (pl : IsPart vl none) (pu : IsPart vu none) (ps : IsPart vs (some (-1)))
    (h : Q (.ref s.heap.objs.size) { s with heap := s.heap.push { cls := .type "tuple", data := .seq items.reverse.toArray } }) (hz : items.length ≤ sizeLine) : wpAny (model P w) A (getItem (.ref t) (.ref sl)) Q E s := by
  obtain ⟨os, hos, hcs, hds⟩ := id hs
  have ts : s.TypeIs (.ref sl) "slice" := ⟨os, hos, hcs⟩
  unfold getItem
  try with_reducible refine wpAny_holding ?_
  first | refine wpAny_bind (wpAny_pure ?_) | skip
  refine wpAny_bind (wpAny_sequenceKey ht.typeIs (by decide) ?_)
  refine wpAny_bind (wpAny_callSpecial?_slot (name := Str.ofString "__getitem__") ht.typeIs PyProof.Rows.slot_tuple_getitem (wpAny_call_entry PyProof.Rows.slot_tuple_getitem ht.typeIs PyProof.Rows.entry_tuple_getitem ?_ (PyProof.Rows.args_tuple_getitem _ _)))
  show wpAny _ _ (Builtin.Tuple.tupleItemsOf (.ref t) >>= _) _ _ s
  refine wpAny_bind (tupleItemsOf_ ht ?_)
  refine wpAny_bind (wpAny_typeOf ts ?_)
  rw [if_pos (by decide)]
  refine wpAny_bind (applied_rev hs pl pu ps ?_)
  have no : ¬ ((((items.toArray.size : Int) - 1) == 0 && (-1 : Int) == 1 && items.toArray.size == items.toArray.size) = true) := by simp
  show wpAny _ _ (if (((items.toArray.size : Int) - 1) == 0 && (-1 : Int) == 1 && items.toArray.size == items.toArray.size) = true then _ else _) _ _ s
  rw [if_neg no, pick_rev]
  have fits : sizeOk (.seq items.reverse.toArray) := by
    show items.reverse.toArray.size ≤ sizeLine
    simp
    exact hz
  first
    | exact wpAny_bind (m := Builtin.Tuple.tupleExact _) (wpAny_newObj_type (wpAny_pure ⟨_, rfl, wpAny_pure h⟩) fits)
    | exact wpAny_bind (m := Builtin.Tuple.tupleExact _) (wpAny_newObj_type (wpAny_bind (wpAny_pure (wpAny_pure ⟨_, rfl, wpAny_pure h⟩))) fits)
    | exact wpAny_bind (wpAny_bind (m := Builtin.Tuple.tupleExact _) (wpAny_newObj_type (wpAny_pure (wpAny_pure ⟨_, rfl, wpAny_pure h⟩)) fits))
    | exact wpAny_bind (wpAny_bind (m := Builtin.Tuple.tupleExact _) (wpAny_newObj_type (wpAny_pure ⟨_, rfl, wpAny_pure h⟩) fits))
end
/-- t[::-1] of a tuple -/
def tRevT (K : PySem.W.Frag) (te : TE) : TE := fun σ H Q => te σ H fun x H1 => ∃ a xs, x = .ref a ∧ SqT K H1 a xs ∧ ∀ p, H1 p = none → Q (.ref p) (upd H1 p (.tup xs.reverse))
theorem pe_revT {X : Cx} {e : Expr} {te : TE} {k : Nat} {p1 p2 p3 pos : Pos} (he : PE X e te) : PE X (.Subscript e (.Slice none none (some (.UnaryOp .USub (.Constant (.int 1) k p1) p2)) p3) pos) (tRevT X.K te) := by
  refine ⟨fun pins s σ H Q I h => ?_⟩
  refine Subscript_ (thn (he.run pins s σ H _ I h) fun v s1 ⟨x, H1, I1, r1, q1⟩ => ?_)
  obtain ⟨a, xs, rfl, hx, q⟩ := q1
  cases r1
  have st : PO X (some (.UnaryOp .USub (.Constant (.int 1) k p1) p2)) (tPart (tUn (rU fun i => .int (-i)) (tC (.int 1)))) := po_some (pe_un un_neg pe_int)
  refine wpAny_Slice (thn (po_none.run pins s1 σ H1 (fun o H2 => o = none ∧ H2 = H1) I1 ⟨rfl, rfl⟩) fun vl s2 ⟨l, H2, I2, pl, el, e2⟩ => ?_)
  subst el e2
  refine thn (po_none.run pins s2 σ H2 (fun o H3 => o = none ∧ H3 = H2) I2 ⟨rfl, rfl⟩) fun vu s3 ⟨u, H3, I3, pu, eu, e3⟩ => ?_
  subst eu e3
  refine thn (st.run pins s3 σ H3 (fun o H4 => o = some (-1) ∧ H4 = H3) I3 ⟨1, rfl, -1, rfl, rfl, rfl⟩) fun vs s4 ⟨o, H4, I4, ps, eo, e4⟩ => ?_
  subst eo e4
  have I5 : Inv X pins σ H4 { s4 with heap := s4.heap.push { cls := .type "slice", data := .fields #[vl, vu, vs] } } := I4.kept (t' := s4.toks) fun b ob q => Heap.get?_push_of_some _ q
  obtain ⟨its, r, ht, hz⟩ := I5.tuple hx
  have hlen := r.length
  show wpAny (model X.prog X.w) X.A (subscriptTail e (.Slice none none (some (.UnaryOp .USub (.Constant (.int 1) k p1) p2)) p3) (.ref a) (.ref s4.heap.objs.size)) (EP X pins σ Q) X.xe { s4 with heap := s4.heap.push { cls := .type "slice", data := .fields #[vl, vu, vs] } }
  refine tail_any (ops := [.ref a, .ref s4.heap.objs.size]) ht.typeIs PyProof.Rows.slot_tuple_getitem.lookup ?_ (by with_unfolding_all rfl)
  refine item_rev ht (Heap.IsSliceOf.new _ vl vu vs) pl pu ps ?_ (by omega)
  refine ⟨.ref _, _, I5.laid (t' := s4.toks) (o := .tup xs.reverse) (fun b ob q => Heap.get?_push_of_some _ q) (Nat.le_refl _) ?_, rfl, q _ (I5.hok.fresh (Nat.le_refl _))⟩
  exact ⟨by rw [List.length_reverse]; exact hz, _, r.reverse, IsTup.new _ _⟩
theorem pe_revTK {X : Cx} {K : PySem.W.Frag} (h : X.K = K) {e : Expr} {te : TE} {k : Nat} {p1 p2 p3 pos : Pos} (he : PE X e te) : PE X (.Subscript e (.Slice none none (some (.UnaryOp .USub (.Constant (.int 1) k p1) p2)) p3) pos) (tRevT K te) := h ▸ pe_revT he
end Gx

namespace K02
open PySem PySem.Spec PyProof.Rows L2 Gx
section
variable {P : Program} {w : World} {K : PySem.W.Frag} {mg : Str → Option Value} {base : Heap}

def spNear (K : PySem.W.Frag) : Sp := fun vs H Q _ => ∃ p t b, vs = [.ref p, .ref t] ∧ SrcAt H p ∧ BaseAt K H t b ∧ WF b ∧ ∀ (H' : Hp) (q : Addr) (bs : List V), Kp p H H' → SrcAt H' p → H' q = some (.lst bs) → (∀ v ∈ bs, ∃ u c, v = .ref u ∧ BaseAt K H' u c ∧ WF c) → bs.length < 1000 → H q = none → Q (.ref q) H'
theorem cut_drop {xs : List Str} : cutV (xs.map V.str) (some 1) none = (xs.drop 1).map V.str := by
  unfold cutV
  have e : HT.sIx (xs.map V.str).length 0 (some 1) = min 1 (xs.map V.str).length := HT.sIx_nat _ 0 1
  rw [e, HT.sIx_none]
  cases xs with
  | nil => rfl
  | cons x xs =>
    have l1 : min 1 ((x :: xs).map V.str).length = 1 := by simp only [List.length_map, List.length_cons]; omega
    rw [l1]
    simp only [List.map_cons, List.drop_succ_cons, List.drop_zero, List.length_cons, Nat.add_sub_cancel]
    exact List.take_of_length_le (by omega)
theorem cut_one {xs : List Str} : cutV (xs.map V.str) none (some 1) = (xs.take 1).map V.str := by
  rw [cut_take (by decide), ← List.map_take]
  rfl
theorem cut_from {xs : List V} {k : Int} (h : 0 ≤ k) : cutV xs (some k) none = xs.drop k.toNat := by
  unfold cutV
  have e : HT.sIx xs.length 0 (some k) = min k.toNat xs.length := by
    have := HT.sIx_nat xs.length 0 k.toNat
    rwa [Int.toNat_of_nonneg h] at this
  rw [e, HT.sIx_none]
  rcases Nat.le_total k.toNat xs.length with l | l
  · rw [Nat.min_eq_left l]
    exact List.take_of_length_le (by rw [List.length_drop]; exact Nat.le_refl _)
  · rw [Nat.min_eq_right l, List.drop_of_length_le l, List.drop_of_length_le (Nat.le_refl _)]
    simp
theorem Paired.tk {α β : Type} {R : α → β → Prop} : ∀ {xs : List α} {ys : List β} (n : Nat), Paired R xs ys → Paired R (xs.take n) (ys.take n)
  | _, _, 0, _ => .nil
  | _, _, _ + 1, .nil => .nil
  | _, _, n + 1, .cons h t => .cons h (Paired.tk n t)
theorem Paired.dr {α β : Type} {R : α → β → Prop} : ∀ {xs : List α} {ys : List β} (n : Nat), Paired R xs ys → Paired R (xs.drop n) (ys.drop n)
  | _, _, 0, h => h
  | _, _, _ + 1, .nil => .nil
  | _, _, n + 1, .cons h t => Paired.dr n t
theorem Paired.ap {α β : Type} {R : α → β → Prop} : ∀ {xs as : List α} {ys bs : List β}, Paired R xs ys → Paired R as bs → Paired R (xs ++ as) (ys ++ bs)
  | _, _, _, _, .nil, k => k
  | _, _, _, _, .cons h t, k => .cons h (Paired.ap t k)
theorem Paired.rv {α β : Type} {R : α → β → Prop} {xs : List α} {ys : List β} (h : Paired R xs ys) : Paired R xs.reverse ys.reverse := by
  induction h with
  | nil => exact .nil
  | cons h t ih => rw [List.reverse_cons, List.reverse_cons]; exact Paired.ap ih (.cons h .nil)
theorem BaseAt.lst {K : PySem.W.Frag} {m : Addr} {H H' : Hp} {ys : List V} {t : Addr} {b : Bs} (h : BaseAt K H t b) (k : Kp m H H') (q : H m = some (.lst ys)) : BaseAt K H' t b := by
  obtain ⟨a, w, es, h1, h2, h3, h4⟩ := h
  exact ⟨a, w, es, SqT.lstK h1 k q, SqT.lstK h2 k q, SqT.lstK h3 k q, Paired.imp2 (fun _ _ z => EAt.lst z k q) h4⟩
theorem names_repl {ws : List Ent} {i : Nat} {e e' : Ent} (he : ws[i]? = some e) (hn : e'.name = e.name) : ((ws.take i ++ [e']) ++ ws.drop (i + 1)).map Ent.name = ws.map Ent.name := by
  obtain ⟨hi, ei⟩ := List.getElem?_eq_some_iff.mp he
  have h1 : ws = ws.take i ++ (e :: ws.drop (i + 1)) := by
    rw [← ei, ← List.drop_eq_getElem_cons hi, List.take_append_drop]
  rw [List.map_append, List.map_append]
  conv => rhs; rw [h1]
  simp [hn]
theorem WF.repl {b : Bs} (wf : WF b) {i : Nat} {e e' : Ent} (he : b.ws[i]? = some e) (hn : e'.name = e.name) (we : Gx.WE b.things b.names e') : WF ⟨b.things, (b.ws.take i ++ [e']) ++ b.ws.drop (i + 1)⟩ := by
  have nm : (⟨b.things, (b.ws.take i ++ [e']) ++ b.ws.drop (i + 1)⟩ : Bs).names = b.names := names_repl he hn
  have ln : ((b.ws.take i ++ [e']) ++ b.ws.drop (i + 1)).length = b.ws.length := by
    have := congrArg List.length (names_repl he hn)
    simpa using this
  refine ⟨wf.t1, wf.t5, wf.tn, wf.td, by rw [ln]; exact wf.w1, by rw [ln]; exact wf.w4, by rw [nm]; exact wf.wn, by rw [nm]; exact wf.wd, fun x hx => ?_⟩
  rw [nm]
  simp only [List.append_assoc, List.mem_append, List.mem_singleton] at hx
  rcases hx with h | h | h
  · exact wf.we x (List.mem_of_mem_take h)
  · rw [h]
    exact we
  · exact wf.we x (List.mem_of_mem_drop h)
theorem WF.revT {b : Bs} (wf : WF b) : WF ⟨b.things.reverse, b.ws⟩ := by
  refine ⟨by simpa using wf.t1, by simpa using wf.t5, fun x h => wf.tn x (List.mem_reverse.mp h), (List.reverse_perm _).nodup_iff.mpr wf.td, wf.w1, wf.w4, wf.wn, wf.wd, fun e he => ?_⟩
  have h := wf.we e he
  exact ⟨fun x hx => List.mem_reverse.mpr (h.w x hx), h.wd, h.l, h.ld, h.l0, h.b⟩
theorem WF.revW {b : Bs} (wf : WF b) : WF ⟨b.things, b.ws.reverse⟩ := by
  have nm : (⟨b.things, b.ws.reverse⟩ : Bs).names = b.names.reverse := by unfold Bs.names; simp
  refine ⟨wf.t1, wf.t5, wf.tn, wf.td, by simpa using wf.w1, by simpa using wf.w4, ?_, ?_, fun e he => ?_⟩
  · rw [nm]
    exact fun x h => wf.wn x (List.mem_reverse.mp h)
  · rw [nm]
    exact (List.reverse_perm _).nodup_iff.mpr wf.wd
  · have h := wf.we e (List.mem_reverse.mp he)
    rw [nm]
    exact ⟨h.w, h.wd, fun x hx => List.mem_reverse.mpr (h.l x hx), h.ld, h.l0, h.b⟩
theorem WF.moreT {b : Bs} (wf : WF b) {x : Str} (lt : b.things.length < 5) (nm : NM x) (nx : x ∉ b.things) : WF ⟨b.things ++ [x], b.ws⟩ := by
  refine ⟨by have := wf.t1; simp only [List.length_append, List.length_singleton]; omega, by simp only [List.length_append, List.length_singleton]; omega, fun y h => ?_, ?_, wf.w1, wf.w4, wf.wn, wf.wd, fun e he => ?_⟩
  · simp only [List.mem_append, List.mem_singleton] at h
    rcases h with h | h
    · exact wf.tn y h
    · rw [h]
      exact nm
  · rw [List.nodup_append]
    exact ⟨wf.td, by simp, fun a ha c hc e => by simp at hc; subst hc; exact nx (e ▸ ha)⟩
  · have h := wf.we e he
    exact ⟨fun y hy => List.mem_append_left _ (h.w y hy), h.wd, h.l, h.ld, h.l0, h.b⟩
theorem WF.moreW {b : Bs} (wf : WF b) {x y : Str} (lt : b.ws.length < 4) (nm : NM x) (nx : x ∉ b.names) (hy : y ∈ b.names) : WF ⟨b.things, b.ws ++ [⟨x, [], "top", [y]⟩]⟩ := by
  have en : (⟨b.things, b.ws ++ [⟨x, [], "top", [y]⟩]⟩ : Bs).names = b.names ++ [x] := by unfold Bs.names; simp
  refine ⟨wf.t1, wf.t5, wf.tn, wf.td, by simp, by simp only [List.length_append, List.length_singleton]; omega, ?_, ?_, fun e he => ?_⟩
  · rw [en]
    intro z h
    simp only [List.mem_append, List.mem_singleton] at h
    rcases h with h | h
    · exact wf.wn z h
    · rw [h]
      exact nm
  · rw [en, List.nodup_append]
    exact ⟨wf.wd, by simp, fun a ha c hc e => by simp at hc; subst hc; exact nx (e ▸ ha)⟩
  · rw [en]
    simp only [List.mem_append, List.mem_singleton] at he
    rcases he with he | he
    · have h := wf.we e he
      exact ⟨h.w, h.wd, fun z hz => List.mem_append_left _ (h.l z hz), h.ld, h.l0, h.b⟩
    · subst he
      exact ⟨fun z hz => absurd hz (List.not_mem_nil), List.nodup_nil, fun z hz => (List.mem_singleton.mp hz) ▸ List.mem_append_left _ hy, by simp, by simp, .inl rfl⟩
theorem nodup_rev {α : Type} {xs : List α} (h : xs.Nodup) : xs.reverse.Nodup := (List.reverse_perm xs).nodup_iff.mpr h
theorem ifs {c : Bool} {σ : L2.St} {H : Hp} {k : VK} (h : ∀ ot : Str, (ot = "top" ∨ ot = "place") → k (.str ot) H) : if c = true then tC (.str "place") σ H k else tC (.str "top") σ H k := by
  cases c
  · exact h _ (.inl rfl)
  · exact h _ (.inr rfl)
theorem ca_law_near (F : Facts K mg) : Ca P w K mg base CX0 6 "_law_near" (spNear K) := by
  obtain ⟨fd, D⟩ := fun_law_near F
  refine ⟨_, fd, ["source", "base"], D.ok sc_law_near (fun vs H Q E h => ?_) (fun cdv A outer s H vs Q E hr h => ?_), D.bindsN fun _ _ _ _ _ _ us hl => match us, hl with | [_, _], _ => rfl, g__law_near F, D.kp⟩
  · obtain ⟨_, _, _, rfl, _⟩ := h
    rfl
  · have hu := hu_of hr
    skip
    refine ⟨_, PSs.nox (pss_cons (ps_asg (pv 1) (pg_tup rfl (pgs_cons (pg_name (i := 7) sc_law_near.nd rfl (Or.inr rfl)) (pgs_cons (pg_name (i := 8) sc_law_near.nd rfl (Or.inr rfl)) pgs_nil))))
    (pss_cons (ps_set (i := 2) sc_law_near.nd rfl (Or.inr rfl) (pe_ca (ca_law_draw F) (hr.mono (by decide)) rfl pass0 (pa_cons (pv 0) (pa_cons (pe_callB call_len (by rfl) (z_len F) boot_len (pa_cons (pv 8) pa_nil)) pa_nil))))
    (pss_cons (ps_asg (pe_ix (ix_tupK (K := K) rfl) (pv 8) (pv 2) (fun _ _ => rfl)) (pg_tup rfl (pgs_cons (pg_name (i := 9) sc_law_near.nd rfl (Or.inl rfl)) (pgs_cons (pg_name (i := 10) sc_law_near.nd rfl (Or.inl rfl)) (pgs_cons (pg_name (i := 11) sc_law_near.nd rfl (Or.inl rfl)) (pgs_cons (pg_name (i := 12) sc_law_near.nd rfl (Or.inl rfl)) pgs_nil))))))
    (pss_cons (ps_set (i := 3) sc_law_near.nd rfl (Or.inl rfl) (pe_ifExp (pt_cmpR op_eq (pv 11) pe_str (nomark _)) pe_str pe_str))
    (pss_cons (ps_setLc (i := 4) (own := [("entry", 13)]) (g := gName 13) (by rfl) sc_law_near.nd rfl rfl (sw_true rfl rfl rfl (by decide +kernel)) (pi_tup (pv 8)) (blkOk_by (own := [("entry", 13)]) (N := ["source", "base", "at", "other", "names", "some", "found", "things", "weathers", "name", "wishes", "back", "later", "entry"]) (sc := defScope s_law_near) (by decide +kernel)) (fun _ _ _ _ _ => (pg_name (i := 13) sc_law_near.nd rfl (Or.inl rfl))) (fun _ _ _ _ _ => pts_nil) (fun _ _ _ _ _ => (pe_ix (ix_tupK (K := K) rfl) (pv 13) pe_int (fun _ _ => rfl))))
    (pss_cons (ps_set (i := 5) sc_law_near.nd rfl (Or.inl rfl) (pe_lst (pa_cons (pe_tup (pa_cons (pv 9) (pa_cons (pe_revTK (K := K) rfl (pv 10)) (pa_cons (pv 11) (pa_cons (pv 12) pa_nil))))) (pa_cons (pe_tup (pa_cons (pv 9) (pa_cons (pe_slice (sl_tupAK (K := K) rfl) (pv 10) (po_some pe_int) po_none) (pa_cons (pv 11) (pa_cons (pv 12) pa_nil))))) (pa_cons (pe_tup (pa_cons (pv 9) (pa_cons (pv 10) (pa_cons (pv 3) (pa_cons (pv 12) pa_nil))))) pa_nil)))))
    (pss_cons (ps_set (i := 5) sc_law_near.nd rfl (Or.inl rfl) (pe_op op_cat (pv 5) (pe_lst (pa_cons (pe_tup (pa_cons (pv 9) (pa_cons (pv 10) (pa_cons (pv 11) (pa_cons (pe_revTK (K := K) rfl (pv 12)) pa_nil))))) (pa_cons (pe_tup (pa_cons (pv 9) (pa_cons (pv 10) (pa_cons (pv 11) (pa_cons (pe_callTy (call_tuple_ofK (K := K) rfl) (by rfl) (z_tuple F) (by decide +kernel) (pa_cons (pv 4) pa_nil)) pa_nil))))) pa_nil)))))
    (pss_cons (ps_set (i := 5) sc_law_near.nd rfl (Or.inl rfl) (pe_op op_cat (pv 5) (pe_lst (pa_cons (pe_tup (pa_cons (pv 9) (pa_cons (pe_slice (sl_tupAK (K := K) rfl) (pv 7) po_none (po_some pe_int)) (pa_cons (pv 11) (pa_cons (pv 12) pa_nil))))) (pa_cons (pe_tup (pa_cons (pv 9) (pa_cons (pe_slice (sl_tupAK (K := K) rfl) (pv 10) (po_some pe_int) po_none) (pa_cons (pv 3) (pa_cons (pv 12) pa_nil))))) (pa_cons (pe_tup (pa_cons (pv 9) (pa_cons (pe_slice (sl_tupAK (K := K) rfl) (pv 7) po_none (po_some pe_int)) (pa_cons (pv 3) (pa_cons (pv 12) pa_nil))))) pa_nil))))))
    (pss_cons (ps_setLc (i := 6) (own := [("entry", 13)]) (g := gName 13) (by rfl) sc_law_near.nd rfl rfl (sw_true rfl rfl rfl (by decide +kernel)) (pi_list (pv 5)) (blkOk_by (own := [("entry", 13)]) (N := ["source", "base", "at", "other", "names", "some", "found", "things", "weathers", "name", "wishes", "back", "later", "entry"]) (sc := defScope s_law_near) (by decide +kernel)) (fun _ _ _ _ _ => (pg_name (i := 13) sc_law_near.nd rfl (Or.inl rfl))) (fun _ _ _ _ _ => pts_nil) (fun _ _ _ _ _ => (pe_tup (pa_cons (pv 7) (pa_cons (pe_op (op_catAK (K := K) rfl) (pe_op (op_catAK (K := K) rfl) (pe_slice (sl_tupAK (K := K) rfl) (pv 8) po_none (po_some (pv 2))) (pe_tup (pa_cons (pv 13) pa_nil))) (pe_slice (sl_tupAK (K := K) rfl) (pv 8) (po_some (pe_op op_add (pv 2) pe_int)) po_none)) pa_nil)))))
    (pss_cons (ps_if (pt_cmpR op_lt (pe_callB call_len (by rfl) (z_len F) boot_len (pa_cons (pv 7) pa_nil)) pe_int (nomark _)) (pss_one (ps_expr (pe_bm PySem.F.plainAttrs_list PySem.F.slot_list_append PySem.F.type_list_append mt_append (pv 6) (pa_cons (pe_tup (pa_cons (pe_op (op_catAK (K := K) rfl) (pv 7) (pe_tup (pa_cons (pe_ca (ca_law_stranger F) (hr.mono (by decide)) rfl pass0 (pa_cons (pv 1) pa_nil)) pa_nil))) (pa_cons (pv 8) pa_nil))) pa_nil)))) pss_nil)
    (pss_cons (ps_if (pt_cmpR op_lt (pe_callB call_len (by rfl) (z_len F) boot_len (pa_cons (pv 8) pa_nil)) pe_int (nomark _)) (pss_one (ps_expr (pe_bm PySem.F.plainAttrs_list PySem.F.slot_list_append PySem.F.type_list_append mt_append (pv 6) (pa_cons (pe_tup (pa_cons (pv 7) (pa_cons (pe_op (op_catAK (K := K) rfl) (pv 8) (pe_tup (pa_cons (pe_tup (pa_cons (pe_ca (ca_law_stranger F) (hr.mono (by decide)) rfl pass0 (pa_cons (pv 1) pa_nil)) (pa_cons (pe_tup pa_nil) (pa_cons pe_str (pa_cons (pe_tup (pa_cons (pe_ix (ix_tupK (K := K) rfl) (pe_ix (ix_tupK (K := K) rfl) (pv 8) pe_int (fun _ _ => rfl)) pe_int (fun _ _ => rfl)) pa_nil)) pa_nil))))) pa_nil))) pa_nil))) pa_nil)))) pss_nil)
    (pss_one (ps_ret (pe_op op_cat (pv 6) (pe_lst (pa_cons (pe_tup (pa_cons (pe_revTK (K := K) rfl (pv 7)) (pa_cons (pv 8) pa_nil))) (pa_cons (pe_tup (pa_cons (pv 7) (pa_cons (pe_revTK (K := K) rfl (pv 8)) pa_nil))) (pa_cons (pe_ca (ca_law_base F) (hr.mono (by decide)) rfl pass0 (pa_cons (pv 0) (pa_cons pe_int pa_nil))) pa_nil)))))))))))))))))), ?_⟩
    obtain ⟨p, t, b, rfl, hs, hb, wf, q⟩ := h
    have hb0 := hb
    obtain ⟨th, wt, es, h1, h2, h3, h4⟩ := hb
    have el : es.length = b.ws.length := Paired.length h4
    have w4 := wf.w4
    have w1 := wf.w1
    refine ⟨_, rfl, t, _, rfl, h1, rfl, _, _, rfl, _, _, rfl, rfl, ?_⟩
    refine ⟨_, rfl, _, rfl, _, _, rfl, .inr ⟨_, h3, rfl⟩, p, _, rfl, hs, by omega, by omega, fun r o r0 r1 ho => ?_⟩
    have sA : SrcAt (upd H p o) p := SrcAt.put ho
    have kA : Kp p H (upd H p o) := Kp.put
    have hbA := hb0.src kA hs
    have h2A := SqT.src h2 kA hs
    have h3A := SqT.src h3 kA hs
    have h4A := Paired.imp2 (fun _ _ (q : EAt K H _ _) => q.src kA hs) h4
    generalize upd H p o = G0 at sA kA hbA h2A h3A h4A ⊢
    have rn : r.toNat < es.length := by omega
    have er : es[r.toNat]? = some es[r.toNat] := List.getElem?_eq_getElem rn
    obtain ⟨e, he, a, w, l, ea, f1, f2, f3⟩ := Paired.at2 h4A er
    have hem : e ∈ b.ws := List.mem_of_getElem? he
    have we := wf.we e hem
    have hat := atI_nat er
    rw [Int.toNat_of_nonneg r0, ea] at hat
    refine ⟨_, rfl, _, rfl, wt, es, r, _, rfl, rfl, h3A, hat, a, _, rfl, f1, rfl, _, _, rfl, _, _, rfl, _, _, rfl, _, _, rfl, rfl, ?_⟩
    refine ⟨_, rfl, rfl, _, rfl, ?_⟩
    refine ifs fun ot hot => ?_
    dsimp only [gName, L2.start, List.map_cons, List.map_nil, List.length_cons, List.length_nil, List.replicate, List.cons_append, List.nil_append, List.set_cons_zero, List.set_cons_succ, List.set]
    refine ⟨_, rfl, wt, rfl, ⟨_, h3A⟩, fun nl hD => lc_it walk_tup (fun i H' => Same G0 H' ∧ H' nl = some (.lst ((b.names.take i).map V.str))) ⟨Same.new hD, by rw [List.take_zero]; exact upd_same⟩ (fun i H' _ z => SqT.same h3A z.1) (fun i x H2 H' hi z y => ?_) (fun G1 z => ?_)⟩
    · obtain ⟨rfl, hx⟩ := y
      obtain ⟨z1, z2⟩ := z
      obtain ⟨e, he, a, w1, l2, rfl, f1, f2, f3⟩ := Paired.at2 h4A hx
      have lz : (((b.names.take i).map V.str)).length < 1000 := by rw [List.length_map, List.length_take]; omega
      refine ⟨rfl, ?_⟩
      refine ⟨_, rfl, a, _, 0, _, rfl, rfl, SqT.same f1 z1, rfl, _, z2, Nat.lt_of_lt_of_le lz (by decide), Same.over z1 hD, ?_⟩
      rw [upd_same, List.take_succ]
      unfold Bs.names
      rw [List.getElem?_map, he]
      simp
    obtain ⟨S1, E1⟩ := z
    rw [show b.names.take es.length = b.names from by unfold Bs.names; rw [el]; exact List.take_of_length_le (by simp)] at E1
    refine ⟨_, rfl, _, rfl, w, _, rfl, SqT.same f2 S1, fun x1 n_x1 => ?_⟩
    generalize gg2 : upd _ x1 _ = G2
    obtain ⟨S2, E2, _⟩ := laid gg2 n_x1
    have F1 : SqT K G2 x1 (e.wishes.reverse.map V.str) := by rw [List.map_reverse]; exact .inl (.inl E2)
    refine ⟨_, rfl, _, rfl, (by show 4 ≤ sizeLine; decide), fun e1 n_e1 => ?_⟩
    generalize gg3 : upd _ e1 _ = G3
    obtain ⟨S3, E3, _⟩ := laid gg3 n_e1
    have A1 : EAt K G3 (.ref e1) ⟨e.name, e.wishes.reverse, e.back, e.later⟩ := ⟨e1, x1, l, rfl, .inl (.inl E3), SqT.same F1 S3, SqT.same f3 ((S1.trans S2).trans S3)⟩
    refine ⟨_, rfl, _, rfl, _, rfl, w, _, rfl, SqT.same f2 ((S1.trans S2).trans S3), fun x3 G4 S4 E4 => ?_⟩
    have F3 : SqT K G4 x3 ((e.wishes.drop 1).map V.str) := by rw [← cut_drop]; exact E4
    refine ⟨_, rfl, _, rfl, (by show 4 ≤ sizeLine; decide), fun e2 n_e2 => ?_⟩
    generalize gg5 : upd _ e2 _ = G5
    obtain ⟨S5, E5, _⟩ := laid gg5 n_e2
    have A2 : EAt K G5 (.ref e2) ⟨e.name, (e.wishes.drop 1), e.back, e.later⟩ := ⟨e2, x3, l, rfl, .inl (.inl E5), SqT.same F3 S5, SqT.same f3 ((((S1.trans S2).trans S3).trans S4).trans S5)⟩
    refine ⟨_, rfl, _, rfl, _, rfl, _, rfl, (by show 4 ≤ sizeLine; decide), fun e3 n_e3 => ?_⟩
    generalize gg6 : upd _ e3 _ = G6
    obtain ⟨S6, E6, _⟩ := laid gg6 n_e3
    have A3 : EAt K G6 (.ref e3) ⟨e.name, e.wishes, ot, e.later⟩ := ⟨e3, w, l, rfl, .inl (.inl E6), SqT.same f2 (((((S1.trans S2).trans S3).trans S4).trans S5).trans S6), SqT.same f3 (((((S1.trans S2).trans S3).trans S4).trans S5).trans S6)⟩
    refine ⟨(by show 3 ≤ sizeLine; decide), fun sa n_sa => ?_⟩
    generalize gg7 : upd _ sa _ = G7
    obtain ⟨S7, E7, _⟩ := laid gg7 n_sa
    refine ⟨_, rfl, _, rfl, _, rfl, _, rfl, _, rfl, l, _, rfl, SqT.same f3 ((((((S1.trans S2).trans S3).trans S4).trans S5).trans S6).trans S7), fun x8 n_x8 => ?_⟩
    generalize gg8 : upd _ x8 _ = G8
    obtain ⟨S8, E8, _⟩ := laid gg8 n_x8
    have F8 : SqT K G8 x8 (e.later.reverse.map V.str) := by rw [List.map_reverse]; exact .inl (.inl E8)
    refine ⟨(by show 4 ≤ sizeLine; decide), fun e4 n_e4 => ?_⟩
    generalize gg9 : upd _ e4 _ = G9
    obtain ⟨S9, E9, _⟩ := laid gg9 n_e4
    have A4 : EAt K G9 (.ref e4) ⟨e.name, e.wishes, e.back, e.later.reverse⟩ := ⟨e4, w, x8, rfl, .inl (.inl E9), SqT.same f2 ((((((((S1.trans S2).trans S3).trans S4).trans S5).trans S6).trans S7).trans S8).trans S9), SqT.same F8 S9⟩
    refine ⟨_, rfl, _, rfl, _, rfl, _, rfl, nl, _, rfl, .inl ⟨SqL.of ((((((((S2.trans S3).trans S4).trans S5).trans S6).trans S7).trans S8).trans S9) _ _ E1), fun x10 n_x10 => ?_⟩⟩
    generalize gg10 : upd _ x10 _ = G10
    obtain ⟨S10, E10, _⟩ := laid gg10 n_x10
    have F10 : SqT K G10 x10 (b.names.map V.str) := .inl (.inl E10)
    refine ⟨(by show 4 ≤ sizeLine; decide), fun e5 n_e5 => ?_⟩
    generalize gg11 : upd _ e5 _ = G11
    obtain ⟨S11, E11, _⟩ := laid gg11 n_e5
    have A5 : EAt K G11 (.ref e5) ⟨e.name, e.wishes, e.back, b.names⟩ := ⟨e5, w, x10, rfl, .inl (.inl E11), SqT.same f2 ((((((((((S1.trans S2).trans S3).trans S4).trans S5).trans S6).trans S7).trans S8).trans S9).trans S10).trans S11), SqT.same F10 S11⟩
    refine ⟨(by show 2 ≤ sizeLine; decide), fun sb n_sb => ?_⟩
    generalize gg12 : upd _ sb _ = G12
    obtain ⟨S12, E12, _⟩ := laid gg12 n_sb
    refine ⟨sa, sb, _, _, rfl, rfl, ((((S8.trans S9).trans S10).trans S11).trans S12) _ _ E7, E12, (by show 3 + 2 ≤ sizeLine; decide), fun sc n_sc => ?_⟩
    generalize gg13 : upd _ sc _ = G13
    obtain ⟨S13, E13, _⟩ := laid gg13 n_sc
    refine ⟨_, rfl, _, rfl, _, rfl, _, rfl, th, _, rfl, SqT.same h2A ((((((((((((S1.trans S2).trans S3).trans S4).trans S5).trans S6).trans S7).trans S8).trans S9).trans S10).trans S11).trans S12).trans S13), fun x11 G14 S14 E14 => ?_⟩
    have F11 : SqT K G14 x11 ((b.things.take 1).map V.str) := by rw [← cut_one]; exact E14
    refine ⟨_, rfl, _, rfl, (by show 4 ≤ sizeLine; decide), fun e6 n_e6 => ?_⟩
    generalize gg15 : upd _ e6 _ = G15
    obtain ⟨S15, E15, _⟩ := laid gg15 n_e6
    have A6 : EAt K G15 (.ref e6) ⟨e.name, (b.things.take 1), e.back, e.later⟩ := ⟨e6, x11, l, rfl, .inl (.inl E15), SqT.same F11 S15, SqT.same f3 ((((((((((((((S1.trans S2).trans S3).trans S4).trans S5).trans S6).trans S7).trans S8).trans S9).trans S10).trans S11).trans S12).trans S13).trans S14).trans S15)⟩
    refine ⟨_, rfl, _, rfl, _, rfl, w, _, rfl, SqT.same f2 ((((((((((((((S1.trans S2).trans S3).trans S4).trans S5).trans S6).trans S7).trans S8).trans S9).trans S10).trans S11).trans S12).trans S13).trans S14).trans S15), fun x13 G16 S16 E16 => ?_⟩
    have F13 : SqT K G16 x13 ((e.wishes.drop 1).map V.str) := by rw [← cut_drop]; exact E16
    refine ⟨_, rfl, _, rfl, (by show 4 ≤ sizeLine; decide), fun e7 n_e7 => ?_⟩
    generalize gg17 : upd _ e7 _ = G17
    obtain ⟨S17, E17, _⟩ := laid gg17 n_e7
    have A7 : EAt K G17 (.ref e7) ⟨e.name, (e.wishes.drop 1), ot, e.later⟩ := ⟨e7, x13, l, rfl, .inl (.inl E17), SqT.same F13 S17, SqT.same f3 ((((((((((((((((S1.trans S2).trans S3).trans S4).trans S5).trans S6).trans S7).trans S8).trans S9).trans S10).trans S11).trans S12).trans S13).trans S14).trans S15).trans S16).trans S17)⟩
    refine ⟨_, rfl, _, rfl, _, rfl, th, _, rfl, SqT.same h2A ((((((((((((((((S1.trans S2).trans S3).trans S4).trans S5).trans S6).trans S7).trans S8).trans S9).trans S10).trans S11).trans S12).trans S13).trans S14).trans S15).trans S16).trans S17), fun x15 G18 S18 E18 => ?_⟩
    have F15 : SqT K G18 x15 ((b.things.take 1).map V.str) := by rw [← cut_one]; exact E18
    refine ⟨_, rfl, _, rfl, (by show 4 ≤ sizeLine; decide), fun e8 n_e8 => ?_⟩
    generalize gg19 : upd _ e8 _ = G19
    obtain ⟨S19, E19, _⟩ := laid gg19 n_e8
    have A8 : EAt K G19 (.ref e8) ⟨e.name, (b.things.take 1), ot, e.later⟩ := ⟨e8, x15, l, rfl, .inl (.inl E19), SqT.same F15 S19, SqT.same f3 ((((((((((((((((((S1.trans S2).trans S3).trans S4).trans S5).trans S6).trans S7).trans S8).trans S9).trans S10).trans S11).trans S12).trans S13).trans S14).trans S15).trans S16).trans S17).trans S18).trans S19)⟩
    refine ⟨(by show 3 ≤ sizeLine; decide), fun sd n_sd => ?_⟩
    generalize gg20 : upd _ sd _ = G20
    obtain ⟨S20, E20, _⟩ := laid gg20 n_sd
    refine ⟨sc, sd, _, _, rfl, rfl, ((((((S14.trans S15).trans S16).trans S17).trans S18).trans S19).trans S20) _ _ E13, E20, (by show 5 + 3 ≤ sizeLine; decide), fun se n_se => ?_⟩
    generalize gg21 : upd _ se _ = G21
    obtain ⟨S21, E21, _⟩ := laid gg21 n_se
    have EV : ∀ v ∈ (([.ref e1, .ref e2, .ref e3] ++ [.ref e4, .ref e5]) ++ [.ref e6, .ref e7, .ref e8] : List V), ∃ e', EAt K G21 v e' ∧ e'.name = e.name ∧ Gx.WE b.things b.names e' := by
      intro v hv
      simp only [List.cons_append, List.nil_append, List.mem_cons, List.not_mem_nil, or_false] at hv
      rcases hv with h | h | h | h | h | h | h | h <;> subst h
      · exact ⟨_, EAt.same A1 (((((((((((((((((S4.trans S5).trans S6).trans S7).trans S8).trans S9).trans S10).trans S11).trans S12).trans S13).trans S14).trans S15).trans S16).trans S17).trans S18).trans S19).trans S20).trans S21), rfl, fun x h => we.w x (List.mem_reverse.mp h), nodup_rev we.wd, we.l, we.ld, we.l0, we.b⟩
      · exact ⟨_, EAt.same A2 (((((((((((((((S6.trans S7).trans S8).trans S9).trans S10).trans S11).trans S12).trans S13).trans S14).trans S15).trans S16).trans S17).trans S18).trans S19).trans S20).trans S21), rfl, fun x h => we.w x (List.mem_of_mem_drop h), List.Sublist.nodup (List.drop_sublist _ _) we.wd, we.l, we.ld, we.l0, we.b⟩
      · exact ⟨_, EAt.same A3 ((((((((((((((S7.trans S8).trans S9).trans S10).trans S11).trans S12).trans S13).trans S14).trans S15).trans S16).trans S17).trans S18).trans S19).trans S20).trans S21), rfl, we.w, we.wd, we.l, we.ld, we.l0, hot⟩
      · exact ⟨_, EAt.same A4 (((((((((((S10.trans S11).trans S12).trans S13).trans S14).trans S15).trans S16).trans S17).trans S18).trans S19).trans S20).trans S21), rfl, we.w, we.wd, fun x h => we.l x (List.mem_reverse.mp h), nodup_rev we.ld, fun z => we.l0 (List.reverse_eq_nil_iff.mp z), we.b⟩
      · exact ⟨_, EAt.same A5 (((((((((S12.trans S13).trans S14).trans S15).trans S16).trans S17).trans S18).trans S19).trans S20).trans S21), rfl, we.w, we.wd, fun x h => h, wf.wd, fun z => by unfold Bs.names at z; simp only at z; rw [List.map_eq_nil_iff] at z; rw [z] at w1; simp at w1, we.b⟩
      · exact ⟨_, EAt.same A6 (((((S16.trans S17).trans S18).trans S19).trans S20).trans S21), rfl, fun x h => List.mem_of_mem_take h, List.Sublist.nodup (List.take_sublist _ _) wf.td, we.l, we.ld, we.l0, we.b⟩
      · exact ⟨_, EAt.same A7 (((S18.trans S19).trans S20).trans S21), rfl, fun x h => we.w x (List.mem_of_mem_drop h), List.Sublist.nodup (List.drop_sublist _ _) we.wd, we.l, we.ld, we.l0, hot⟩
      · exact ⟨_, EAt.same A8 (S20.trans S21), rfl, fun x h => List.mem_of_mem_take h, List.Sublist.nodup (List.take_sublist _ _) wf.td, we.l, we.ld, we.l0, hot⟩
    have SN : Same G0 G21 := ((((((((((((((((((((S1.trans S2).trans S3).trans S4).trans S5).trans S6).trans S7).trans S8).trans S9).trans S10).trans S11).trans S12).trans S13).trans S14).trans S15).trans S16).trans S17).trans S18).trans S19).trans S20).trans S21)
    have EN := E21
    have LL : (([V.ref e1, V.ref e2, V.ref e3] ++ [V.ref e4, V.ref e5]) ++ [V.ref e6, V.ref e7, V.ref e8] : List V).length = 8 := rfl
    generalize (([V.ref e1, V.ref e2, V.ref e3] ++ [V.ref e4, V.ref e5]) ++ [V.ref e6, V.ref e7, V.ref e8] : List V) = LS at EV EN LL ⊢
    dsimp only [gName, List.set_cons_zero, List.set_cons_succ, List.set]
    have ltk : ∀ n, (es.take n).length ≤ 4 := fun n => by rw [List.length_take]; omega
    have ldr : ∀ n, (es.drop n).length ≤ 4 := fun n => by rw [List.length_drop]; omega
    have big : (100 : Nat) ≤ sizeLine := by decide
    refine ⟨_, rfl, se, rfl, ⟨_, SqL.of EN⟩, fun fl n_fl => lc_it walk_list (fun i H' => Same G21 H' ∧ ∃ vs : List V, H' fl = some (.lst vs) ∧ vs.length = i ∧ ∀ v ∈ vs, ∃ u c, v = V.ref u ∧ BaseAt K H' u c ∧ WF c) ⟨Same.new n_fl, [], upd_same, rfl, fun v h => by cases h⟩ (fun i H' _ z => SqL.of (z.1 _ _ EN)) (fun i x H2 H' hi z y => ?_) (fun GF z => ?_)⟩
    · obtain ⟨rfl, hx⟩ := y
      obtain ⟨z1, vs, z2, z3, z4⟩ := z
      obtain ⟨e', A', n', w'⟩ := EV x (List.mem_of_getElem? hx)
      have k0 := SN.trans z1
      refine ⟨rfl, ?_⟩
      refine ⟨_, rfl, _, rfl, _, rfl, _, rfl, wt, _, rfl, SqT.same h3A k0, fun t1 J1 j1 c1 => ?_⟩
      rw [cut_take r0] at c1
      refine ⟨_, rfl, (by show 1 ≤ sizeLine; decide), fun u n_u => ?_⟩
      generalize gu : upd _ u _ = J2
      obtain ⟨j2, q2, _⟩ := laid gu n_u
      refine ⟨t1, u, _, _, rfl, rfl, SqT.same c1 j2, .inl (.inl q2), Nat.le_trans (by have := ltk r.toNat; simp only [List.length_singleton]; omega) big, fun t2 J3 j3 c3 => ?_⟩
      refine ⟨_, rfl, _, rfl, _, _, rfl, rfl, _, rfl, wt, _, rfl, SqT.same h3A (k0.trans (j1.trans (j2.trans j3))), fun t3 J4 j4 c4 => ?_⟩
      rw [cut_from (by omega : 0 ≤ r + 1)] at c4
      refine ⟨t2, t3, _, _, rfl, rfl, SqT.same c3 j4, c4, Nat.le_trans (by have := ltk r.toNat; have := ldr (r + 1).toNat; simp only [List.length_append, List.length_singleton]; omega) big, fun t4 J5 j5 c5 => ?_⟩
      refine ⟨(by show 2 ≤ sizeLine; decide), fun u2 n_u2 => ?_⟩
      generalize gu2 : upd _ u2 _ = J6
      obtain ⟨j6, q6, _⟩ := laid gu2 n_u2
      have jj : Same H' J6 := j1.trans (j2.trans (j3.trans (j4.trans (j5.trans j6))))
      have z2' := jj _ _ z2
      have rr : (r + 1).toNat = r.toNat + 1 := by omega
      rw [rr] at c5
      have kk := k0.trans jj
      have nb : BaseAt K J6 u2 ⟨b.things, (b.ws.take r.toNat ++ [e']) ++ b.ws.drop (r.toNat + 1)⟩ := ⟨th, t4, _, .inl (.inl q6), SqT.same h2A kk, SqT.same c5 j6, Paired.ap (Paired.ap (Paired.tk _ (Paired.imp2 (fun _ _ (h : EAt K G0 _ _) => h.same kk) h4A)) (.cons (EAt.same A' (z1.trans jj)) .nil)) (Paired.dr _ (Paired.imp2 (fun _ _ (h : EAt K G0 _ _) => h.same kk) h4A))⟩
      refine ⟨_, z2', by rw [z3]; exact Nat.lt_of_lt_of_le (by omega : i < 100) big, Same.over (z1.trans jj) n_fl, vs ++ [.ref u2], upd_same, by simp [z3], fun v hv => ?_⟩
      rcases List.mem_append.mp hv with hv | hv
      · obtain ⟨u', c', h1', h2', h3'⟩ := z4 v hv
        exact ⟨u', c', h1', BaseAt.lst (h2'.same jj) Kp.put z2', h3'⟩
      · simp only [List.mem_singleton] at hv
        exact ⟨u2, _, hv, BaseAt.lst nb Kp.put z2', WF.repl wf he n' w'⟩
    obtain ⟨z1, vs, z2, z3, z4⟩ := z
    rw [LL] at z3
    have flp : fl ≠ p := (sA.same SN).old n_fl
    have flH : H fl = none := Kp.none kA hs (none_old SN n_fl) sA
    have k0 := SN.trans z1
    have P1 : Kp p H GF := kA.trans (Same.kp k0)
    have P2 := sA.same k0
    have P3 := hbA.same k0
    have P4 := SqT.same h2A k0
    have P5 := SqT.same h3A k0
    have P6 := Paired.imp2 (fun _ _ (h : EAt K G0 _ _) => h.same k0) h4A
    have P7 : vs.length ≤ 8 := by omega
    clear z1 EN LL EV SN
    dsimp only [gName, List.set_cons_zero, List.set_cons_succ, List.set]
    have P0 := z2
    have P8 := z4
    refine ⟨_, rfl, _, _, rfl, .inr ⟨_, P4, rfl⟩, _, _, rfl, rfl, _, rfl, ?_⟩
    refine ite2 (fun hlt => ?_) (fun hlt => ?_)
    · replace hlt : b.things.length < 5 := by
        have := of_decide_eq_true hlt
        simp only [List.length_map] at this
        omega
      refine ⟨_, rfl, .inl ⟨rfl, _, SqL.of P0⟩, _, rfl, _, rfl, t, b, rfl, P3, wf, fun L1 sx l1 nmx ntx nnx => ?_⟩
      refine ⟨(by show 1 ≤ sizeLine; decide), fun c1 nc1 => ?_⟩
      generalize gc1 : upd _ c1 _ = L2
      obtain ⟨l2, w2, _⟩ := laid gc1 nc1
      refine ⟨th, c1, _, _, rfl, rfl, SqT.same P4 (l1.trans l2), .inl (.inl w2), Nat.le_trans (by have := wf.t5; simp only [List.length_map, List.length_singleton]; omega) big, fun c2 L3 l3 w3 => ?_⟩
      refine ⟨_, rfl, (by show 2 ≤ sizeLine; decide), fun c3 nc3 => ?_⟩
      generalize gc3 : upd _ c3 _ = L4
      obtain ⟨l4, w4', _⟩ := laid gc3 nc3
      have ll := l1.trans (l2.trans (l3.trans l4))
      have w3' : SqT K L3 c2 ((b.things ++ [sx]).map V.str) := by rw [List.map_append]; exact w3
      have NB : BaseAt K L4 c3 ⟨b.things ++ [sx], b.ws⟩ := ⟨c2, wt, es, .inl (.inl w4'), SqT.same w3' l4, SqT.same P5 ll, Paired.imp2 (fun _ _ (h : EAt K _ _ _) => h.same ll) P6⟩
      have NW : WF ⟨b.things ++ [sx], b.ws⟩ := WF.moreT wf hlt nmx ntx
      have f4 := ll _ _ P0
      refine ⟨fl, _, _, rfl, rfl, f4, Nat.lt_of_lt_of_le (by omega : (vs).length < 100) big, ?_⟩
      have Q0 : (upd L4 fl (.lst (vs ++ [.ref c3]))) fl = some (.lst (vs ++ [.ref c3])) := upd_same
      have Q1 : Kp p H (upd L4 fl (.lst (vs ++ [.ref c3]))) := fun b0 o0 nb0 eb0 => by
        rw [upd_ne (ne_of_none eb0 flH)]
        exact ll _ _ (P1 _ _ nb0 eb0)
      have Q2 : SrcAt (upd L4 fl (.lst (vs ++ [.ref c3]))) p := by
        obtain ⟨s5, s6, s7, s8⟩ := P2.same ll
        exact ⟨s5, s6, by rw [upd_ne (Ne.symm flp)]; exact s7, s8⟩
      have Q3 : BaseAt K (upd L4 fl (.lst (vs ++ [.ref c3]))) t b := BaseAt.lst (P3.same ll) Kp.put f4
      have Q4 : SqT K (upd L4 fl (.lst (vs ++ [.ref c3]))) th (b.things.map V.str) := SqT.lstK (SqT.same P4 ll) Kp.put f4
      have Q5 : SqT K (upd L4 fl (.lst (vs ++ [.ref c3]))) wt es := SqT.lstK (SqT.same P5 ll) Kp.put f4
      have Q6 : Paired (fun x x_1 => EAt K (upd L4 fl (.lst (vs ++ [.ref c3]))) x x_1) es b.ws := Paired.imp2 (fun _ _ (h : EAt K _ _ _) => EAt.lst (h.same ll) Kp.put f4) P6
      have Q7 : (vs ++ [.ref c3] : List V).length ≤ 9 := by simp only [List.length_append, List.length_singleton]; omega
      have Q8 : ∀ v ∈ (vs ++ [.ref c3] : List V), ∃ u c, v = V.ref u ∧ BaseAt K (upd L4 fl (.lst (vs ++ [.ref c3]))) u c ∧ WF c := fun v hv => by
        rcases List.mem_append.mp hv with hv | hv
        · obtain ⟨u, c, h1', h2', h3'⟩ := P8 v hv
          exact ⟨u, c, h1', BaseAt.lst (h2'.same ll) Kp.put f4, h3'⟩
        · simp only [List.mem_singleton] at hv
          exact ⟨c3, _, hv, BaseAt.lst NB Kp.put f4, NW⟩
      generalize upd L4 fl (.lst (vs ++ [.ref c3])) = LQ at Q0 Q1 Q2 Q3 Q4 Q5 Q6 Q8 ⊢
      generalize (vs ++ [.ref c3] : List V) = vq at Q0 Q7 Q8 ⊢
      refine ⟨_, rfl, _, _, rfl, .inr ⟨_, Q5, rfl⟩, _, _, rfl, rfl, _, rfl, ?_⟩
      refine ite2 (fun hlt2 => ?_) (fun hlt2 => ?_)
      · skip
        obtain ⟨v0, hv0⟩ : ∃ v0, es[0]? = some v0 := ⟨_, List.getElem?_eq_getElem (by omega : 0 < es.length)⟩
        obtain ⟨e0, he0, a0, w0, l0, ea0, f10, f20, f30⟩ := Paired.at2 Q6 hv0
        subst ea0
        refine ⟨_, rfl, .inl ⟨rfl, _, SqL.of Q0⟩, _, rfl, _, rfl, _, rfl, t, b, rfl, Q3, wf, fun L1 sx l1 nmx ntx nnx => ?_⟩
        refine ⟨(by show 0 ≤ sizeLine; decide), fun c1 nc1 => ?_⟩
        generalize gc1 : upd _ c1 _ = LA
        obtain ⟨l2, w2, _⟩ := laid gc1 nc1
        refine ⟨_, rfl, wt, es, 0, .ref a0, rfl, rfl, SqT.same Q5 (l1.trans l2), atI_nat (j := 0) hv0, a0, _, 0, _, rfl, rfl, SqT.same f10 (l1.trans l2), rfl, (by show 1 ≤ sizeLine; decide), fun c2 nc2 => ?_⟩
        generalize gc2 : upd _ c2 _ = LB
        obtain ⟨l3, w3, _⟩ := laid gc2 nc2
        refine ⟨(by show 4 ≤ sizeLine; decide), fun c4 nc4 => ?_⟩
        generalize gc4 : upd _ c4 _ = LC
        obtain ⟨l4, w4', _⟩ := laid gc4 nc4
        refine ⟨(by show 1 ≤ sizeLine; decide), fun c5 nc5 => ?_⟩
        generalize gc5 : upd _ c5 _ = LD
        obtain ⟨l5, w5, _⟩ := laid gc5 nc5
        refine ⟨wt, c5, _, _, rfl, rfl, SqT.same Q5 (l1.trans (l2.trans (l3.trans (l4.trans l5)))), .inl (.inl w5), Nat.le_trans (by simp only [List.length_singleton]; omega) big, fun c6 LE l6 w6 => ?_⟩
        refine ⟨(by show 2 ≤ sizeLine; decide), fun c3 nc3 => ?_⟩
        generalize gc3 : upd _ c3 _ = L4
        obtain ⟨l7, w7, _⟩ := laid gc3 nc3
        have ll := l1.trans (l2.trans (l3.trans (l4.trans (l5.trans (l6.trans l7)))))
        have NE : EAt K L4 (.ref c4) ⟨sx, [], "top", [e0.name]⟩ := ⟨c4, c1, c2, rfl, .inl (.inl ((l5.trans (l6.trans l7)) _ _ w4')), .inl (.inl ((l3.trans (l4.trans (l5.trans (l6.trans l7)))) _ _ w2)), .inl (.inl ((l4.trans (l5.trans (l6.trans l7))) _ _ w3))⟩
        have NB : BaseAt K L4 c3 ⟨b.things, b.ws ++ [⟨sx, [], "top", [e0.name]⟩]⟩ := ⟨th, c6, _, .inl (.inl w7), SqT.same Q4 ll, SqT.same w6 l7, Paired.ap (Paired.imp2 (fun _ _ (h : EAt K _ _ _) => h.same ll) Q6) (.cons NE .nil)⟩
        have NW : WF ⟨b.things, b.ws ++ [⟨sx, [], "top", [e0.name]⟩]⟩ := WF.moreW wf (by
          have := of_decide_eq_true hlt2
          omega) nmx nnx (List.mem_map.mpr ⟨e0, List.mem_of_getElem? he0, rfl⟩)
        have f4 := ll _ _ Q0
        refine ⟨fl, _, _, rfl, rfl, f4, Nat.lt_of_lt_of_le (by omega : (vq).length < 100) big, ?_⟩
        have R0 : (upd L4 fl (.lst (vq ++ [.ref c3]))) fl = some (.lst (vq ++ [.ref c3])) := upd_same
        have R1 : Kp p H (upd L4 fl (.lst (vq ++ [.ref c3]))) := fun b0 o0 nb0 eb0 => by
          rw [upd_ne (ne_of_none eb0 flH)]
          exact ll _ _ (Q1 _ _ nb0 eb0)
        have R2 : SrcAt (upd L4 fl (.lst (vq ++ [.ref c3]))) p := by
          obtain ⟨s5, s6, s7, s8⟩ := Q2.same ll
          exact ⟨s5, s6, by rw [upd_ne (Ne.symm flp)]; exact s7, s8⟩
        have R3 : BaseAt K (upd L4 fl (.lst (vq ++ [.ref c3]))) t b := BaseAt.lst (Q3.same ll) Kp.put f4
        have R4 : SqT K (upd L4 fl (.lst (vq ++ [.ref c3]))) th (b.things.map V.str) := SqT.lstK (SqT.same Q4 ll) Kp.put f4
        have R5 : SqT K (upd L4 fl (.lst (vq ++ [.ref c3]))) wt es := SqT.lstK (SqT.same Q5 ll) Kp.put f4
        have R6 : Paired (fun x x_1 => EAt K (upd L4 fl (.lst (vq ++ [.ref c3]))) x x_1) es b.ws := Paired.imp2 (fun _ _ (h : EAt K _ _ _) => EAt.lst (h.same ll) Kp.put f4) Q6
        have R7 : (vq ++ [.ref c3] : List V).length ≤ 10 := by simp only [List.length_append, List.length_singleton]; omega
        have R8 : ∀ v ∈ (vq ++ [.ref c3] : List V), ∃ u c, v = V.ref u ∧ BaseAt K (upd L4 fl (.lst (vq ++ [.ref c3]))) u c ∧ WF c := fun v hv => by
          rcases List.mem_append.mp hv with hv | hv
          · obtain ⟨u, c, h1', h2', h3'⟩ := Q8 v hv
            exact ⟨u, c, h1', BaseAt.lst (h2'.same ll) Kp.put f4, h3'⟩
          · simp only [List.mem_singleton] at hv
            exact ⟨c3, _, hv, BaseAt.lst NB Kp.put f4, NW⟩
        generalize upd L4 fl (.lst (vq ++ [.ref c3])) = LR at R0 R1 R2 R3 R4 R5 R6 R8 ⊢
        generalize (vq ++ [.ref c3] : List V) = vr at R0 R7 R8 ⊢
        refine ⟨_, rfl, _, rfl, th, _, rfl, R4, fun a1 m1 => ?_⟩
        generalize ga1 : upd _ a1 _ = M1
        obtain ⟨y1, x1, _⟩ := laid ga1 m1
        refine ⟨_, rfl, (by show 2 ≤ sizeLine; decide), fun a2 m2 => ?_⟩
        generalize ga2 : upd _ a2 _ = M2
        obtain ⟨y2, x2, _⟩ := laid ga2 m2
        refine ⟨_, rfl, _, rfl, wt, _, rfl, SqT.same R5 (y1.trans y2), fun a3 m3 => ?_⟩
        generalize ga3 : upd _ a3 _ = M3
        obtain ⟨y3, x3, _⟩ := laid ga3 m3
        refine ⟨(by show 2 ≤ sizeLine; decide), fun a4 m4 => ?_⟩
        generalize ga4 : upd _ a4 _ = M4
        obtain ⟨y4, x4, _⟩ := laid ga4 m4
        have y := y1.trans (y2.trans (y3.trans y4))
        refine ⟨_, rfl, p, 2, rfl, R2.same y, by decide, by decide, fun M5 a5 b5 o1 o2 o3 o4 => ?_⟩
        refine ⟨(by show 3 ≤ sizeLine; decide), fun a6 m6 => ?_⟩
        generalize ga6 : upd _ a6 _ = M6
        obtain ⟨y6, x6, _⟩ := laid ga6 m6
        have fl6 : M6 fl = some (.lst vr) := y6 _ _ (o1 _ _ flp (y _ _ R0))
        refine ⟨fl, a6, _, _, rfl, rfl, fl6, x6, Nat.le_trans (by simp only [List.length_append, List.length_cons, List.length_nil]; omega) big, fun a7 m7 => ?_⟩
        generalize ga7 : upd _ a7 _ = M7
        obtain ⟨y7, x7, _⟩ := laid ga7 m7
        have s4 := R2.same y
        have kp7 : Kp p H M7 := ((R1.trans (Same.kp y)).trans o1).trans (Same.kp (y6.trans y7))
        have m7H : H a7 = none := Kp.none (((R1.trans (Same.kp y)).trans o1).trans (Same.kp y6)) hs m7 (o2.same y6)
        have thR : SqT K M2 a1 (b.things.reverse.map V.str) := by rw [List.map_reverse]; exact .inl (.inl (y2 _ _ x1))
        have B1 : BaseAt K M4 a2 ⟨b.things.reverse, b.ws⟩ := ⟨a1, wt, es, .inl (.inl ((y3.trans y4) _ _ x2)), SqT.same thR (y3.trans y4), SqT.same R5 y, Paired.imp2 (fun _ _ (h : EAt K _ _ _) => h.same y) R6⟩
        have B2 : BaseAt K M4 a4 ⟨b.things, b.ws.reverse⟩ := ⟨th, a3, es.reverse, .inl (.inl x4), SqT.same R4 y, .inl (.inl (y4 _ _ x3)), Paired.rv (Paired.imp2 (fun _ _ (h : EAt K _ _ _) => h.same y) R6)⟩
        have lift : ∀ {u c}, BaseAt K M4 u c → BaseAt K M7 u c := fun {u c} h => (h.src o1 s4).same (y6.trans y7)
        refine q M7 a7 _ kp7 ((o2.same y6).same y7) x7 (fun v hv => ?_) (by simp only [List.length_append, List.length_cons, List.length_nil]; omega) m7H
        rcases List.mem_append.mp hv with hv | hv
        · obtain ⟨u, c, h1', h2', h3'⟩ := R8 v hv
          exact ⟨u, c, h1', lift (h2'.same y), h3'⟩
        · simp only [List.mem_cons, List.not_mem_nil, or_false] at hv
          rcases hv with hv | hv | hv
          · exact ⟨a2, _, hv, lift B1, WF.revT wf⟩
          · exact ⟨a4, _, hv, lift B2, WF.revW wf⟩
          · exact ⟨a5, b5, hv, o3.same (y6.trans y7), o4⟩
      · skip
        refine ⟨_, rfl, _, rfl, th, _, rfl, Q4, fun a1 m1 => ?_⟩
        generalize ga1 : upd _ a1 _ = M1
        obtain ⟨y1, x1, _⟩ := laid ga1 m1
        refine ⟨_, rfl, (by show 2 ≤ sizeLine; decide), fun a2 m2 => ?_⟩
        generalize ga2 : upd _ a2 _ = M2
        obtain ⟨y2, x2, _⟩ := laid ga2 m2
        refine ⟨_, rfl, _, rfl, wt, _, rfl, SqT.same Q5 (y1.trans y2), fun a3 m3 => ?_⟩
        generalize ga3 : upd _ a3 _ = M3
        obtain ⟨y3, x3, _⟩ := laid ga3 m3
        refine ⟨(by show 2 ≤ sizeLine; decide), fun a4 m4 => ?_⟩
        generalize ga4 : upd _ a4 _ = M4
        obtain ⟨y4, x4, _⟩ := laid ga4 m4
        have y := y1.trans (y2.trans (y3.trans y4))
        refine ⟨_, rfl, p, 2, rfl, Q2.same y, by decide, by decide, fun M5 a5 b5 o1 o2 o3 o4 => ?_⟩
        refine ⟨(by show 3 ≤ sizeLine; decide), fun a6 m6 => ?_⟩
        generalize ga6 : upd _ a6 _ = M6
        obtain ⟨y6, x6, _⟩ := laid ga6 m6
        have fl6 : M6 fl = some (.lst vq) := y6 _ _ (o1 _ _ flp (y _ _ Q0))
        refine ⟨fl, a6, _, _, rfl, rfl, fl6, x6, Nat.le_trans (by simp only [List.length_append, List.length_cons, List.length_nil]; omega) big, fun a7 m7 => ?_⟩
        generalize ga7 : upd _ a7 _ = M7
        obtain ⟨y7, x7, _⟩ := laid ga7 m7
        have s4 := Q2.same y
        have kp7 : Kp p H M7 := ((Q1.trans (Same.kp y)).trans o1).trans (Same.kp (y6.trans y7))
        have m7H : H a7 = none := Kp.none (((Q1.trans (Same.kp y)).trans o1).trans (Same.kp y6)) hs m7 (o2.same y6)
        have thR : SqT K M2 a1 (b.things.reverse.map V.str) := by rw [List.map_reverse]; exact .inl (.inl (y2 _ _ x1))
        have B1 : BaseAt K M4 a2 ⟨b.things.reverse, b.ws⟩ := ⟨a1, wt, es, .inl (.inl ((y3.trans y4) _ _ x2)), SqT.same thR (y3.trans y4), SqT.same Q5 y, Paired.imp2 (fun _ _ (h : EAt K _ _ _) => h.same y) Q6⟩
        have B2 : BaseAt K M4 a4 ⟨b.things, b.ws.reverse⟩ := ⟨th, a3, es.reverse, .inl (.inl x4), SqT.same Q4 y, .inl (.inl (y4 _ _ x3)), Paired.rv (Paired.imp2 (fun _ _ (h : EAt K _ _ _) => h.same y) Q6)⟩
        have lift : ∀ {u c}, BaseAt K M4 u c → BaseAt K M7 u c := fun {u c} h => (h.src o1 s4).same (y6.trans y7)
        refine q M7 a7 _ kp7 ((o2.same y6).same y7) x7 (fun v hv => ?_) (by simp only [List.length_append, List.length_cons, List.length_nil]; omega) m7H
        rcases List.mem_append.mp hv with hv | hv
        · obtain ⟨u, c, h1', h2', h3'⟩ := Q8 v hv
          exact ⟨u, c, h1', lift (h2'.same y), h3'⟩
        · simp only [List.mem_cons, List.not_mem_nil, or_false] at hv
          rcases hv with hv | hv | hv
          · exact ⟨a2, _, hv, lift B1, WF.revT wf⟩
          · exact ⟨a4, _, hv, lift B2, WF.revW wf⟩
          · exact ⟨a5, b5, hv, o3.same (y6.trans y7), o4⟩
    · skip
      refine ⟨_, rfl, _, _, rfl, .inr ⟨_, P5, rfl⟩, _, _, rfl, rfl, _, rfl, ?_⟩
      refine ite2 (fun hlt2 => ?_) (fun hlt2 => ?_)
      · skip
        obtain ⟨v0, hv0⟩ : ∃ v0, es[0]? = some v0 := ⟨_, List.getElem?_eq_getElem (by omega : 0 < es.length)⟩
        obtain ⟨e0, he0, a0, w0, l0, ea0, f10, f20, f30⟩ := Paired.at2 P6 hv0
        subst ea0
        refine ⟨_, rfl, .inl ⟨rfl, _, SqL.of P0⟩, _, rfl, _, rfl, _, rfl, t, b, rfl, P3, wf, fun L1 sx l1 nmx ntx nnx => ?_⟩
        refine ⟨(by show 0 ≤ sizeLine; decide), fun c1 nc1 => ?_⟩
        generalize gc1 : upd _ c1 _ = LA
        obtain ⟨l2, w2, _⟩ := laid gc1 nc1
        refine ⟨_, rfl, wt, es, 0, .ref a0, rfl, rfl, SqT.same P5 (l1.trans l2), atI_nat (j := 0) hv0, a0, _, 0, _, rfl, rfl, SqT.same f10 (l1.trans l2), rfl, (by show 1 ≤ sizeLine; decide), fun c2 nc2 => ?_⟩
        generalize gc2 : upd _ c2 _ = LB
        obtain ⟨l3, w3, _⟩ := laid gc2 nc2
        refine ⟨(by show 4 ≤ sizeLine; decide), fun c4 nc4 => ?_⟩
        generalize gc4 : upd _ c4 _ = LC
        obtain ⟨l4, w4', _⟩ := laid gc4 nc4
        refine ⟨(by show 1 ≤ sizeLine; decide), fun c5 nc5 => ?_⟩
        generalize gc5 : upd _ c5 _ = LD
        obtain ⟨l5, w5, _⟩ := laid gc5 nc5
        refine ⟨wt, c5, _, _, rfl, rfl, SqT.same P5 (l1.trans (l2.trans (l3.trans (l4.trans l5)))), .inl (.inl w5), Nat.le_trans (by simp only [List.length_singleton]; omega) big, fun c6 LE l6 w6 => ?_⟩
        refine ⟨(by show 2 ≤ sizeLine; decide), fun c3 nc3 => ?_⟩
        generalize gc3 : upd _ c3 _ = L4
        obtain ⟨l7, w7, _⟩ := laid gc3 nc3
        have ll := l1.trans (l2.trans (l3.trans (l4.trans (l5.trans (l6.trans l7)))))
        have NE : EAt K L4 (.ref c4) ⟨sx, [], "top", [e0.name]⟩ := ⟨c4, c1, c2, rfl, .inl (.inl ((l5.trans (l6.trans l7)) _ _ w4')), .inl (.inl ((l3.trans (l4.trans (l5.trans (l6.trans l7)))) _ _ w2)), .inl (.inl ((l4.trans (l5.trans (l6.trans l7))) _ _ w3))⟩
        have NB : BaseAt K L4 c3 ⟨b.things, b.ws ++ [⟨sx, [], "top", [e0.name]⟩]⟩ := ⟨th, c6, _, .inl (.inl w7), SqT.same P4 ll, SqT.same w6 l7, Paired.ap (Paired.imp2 (fun _ _ (h : EAt K _ _ _) => h.same ll) P6) (.cons NE .nil)⟩
        have NW : WF ⟨b.things, b.ws ++ [⟨sx, [], "top", [e0.name]⟩]⟩ := WF.moreW wf (by
          have := of_decide_eq_true hlt2
          omega) nmx nnx (List.mem_map.mpr ⟨e0, List.mem_of_getElem? he0, rfl⟩)
        have f4 := ll _ _ P0
        refine ⟨fl, _, _, rfl, rfl, f4, Nat.lt_of_lt_of_le (by omega : (vs).length < 100) big, ?_⟩
        have R0 : (upd L4 fl (.lst (vs ++ [.ref c3]))) fl = some (.lst (vs ++ [.ref c3])) := upd_same
        have R1 : Kp p H (upd L4 fl (.lst (vs ++ [.ref c3]))) := fun b0 o0 nb0 eb0 => by
          rw [upd_ne (ne_of_none eb0 flH)]
          exact ll _ _ (P1 _ _ nb0 eb0)
        have R2 : SrcAt (upd L4 fl (.lst (vs ++ [.ref c3]))) p := by
          obtain ⟨s5, s6, s7, s8⟩ := P2.same ll
          exact ⟨s5, s6, by rw [upd_ne (Ne.symm flp)]; exact s7, s8⟩
        have R3 : BaseAt K (upd L4 fl (.lst (vs ++ [.ref c3]))) t b := BaseAt.lst (P3.same ll) Kp.put f4
        have R4 : SqT K (upd L4 fl (.lst (vs ++ [.ref c3]))) th (b.things.map V.str) := SqT.lstK (SqT.same P4 ll) Kp.put f4
        have R5 : SqT K (upd L4 fl (.lst (vs ++ [.ref c3]))) wt es := SqT.lstK (SqT.same P5 ll) Kp.put f4
        have R6 : Paired (fun x x_1 => EAt K (upd L4 fl (.lst (vs ++ [.ref c3]))) x x_1) es b.ws := Paired.imp2 (fun _ _ (h : EAt K _ _ _) => EAt.lst (h.same ll) Kp.put f4) P6
        have R7 : (vs ++ [.ref c3] : List V).length ≤ 10 := by simp only [List.length_append, List.length_singleton]; omega
        have R8 : ∀ v ∈ (vs ++ [.ref c3] : List V), ∃ u c, v = V.ref u ∧ BaseAt K (upd L4 fl (.lst (vs ++ [.ref c3]))) u c ∧ WF c := fun v hv => by
          rcases List.mem_append.mp hv with hv | hv
          · obtain ⟨u, c, h1', h2', h3'⟩ := P8 v hv
            exact ⟨u, c, h1', BaseAt.lst (h2'.same ll) Kp.put f4, h3'⟩
          · simp only [List.mem_singleton] at hv
            exact ⟨c3, _, hv, BaseAt.lst NB Kp.put f4, NW⟩
        generalize upd L4 fl (.lst (vs ++ [.ref c3])) = LR at R0 R1 R2 R3 R4 R5 R6 R8 ⊢
        generalize (vs ++ [.ref c3] : List V) = vr at R0 R7 R8 ⊢
        refine ⟨_, rfl, _, rfl, th, _, rfl, R4, fun a1 m1 => ?_⟩
        generalize ga1 : upd _ a1 _ = M1
        obtain ⟨y1, x1, _⟩ := laid ga1 m1
        refine ⟨_, rfl, (by show 2 ≤ sizeLine; decide), fun a2 m2 => ?_⟩
        generalize ga2 : upd _ a2 _ = M2
        obtain ⟨y2, x2, _⟩ := laid ga2 m2
        refine ⟨_, rfl, _, rfl, wt, _, rfl, SqT.same R5 (y1.trans y2), fun a3 m3 => ?_⟩
        generalize ga3 : upd _ a3 _ = M3
        obtain ⟨y3, x3, _⟩ := laid ga3 m3
        refine ⟨(by show 2 ≤ sizeLine; decide), fun a4 m4 => ?_⟩
        generalize ga4 : upd _ a4 _ = M4
        obtain ⟨y4, x4, _⟩ := laid ga4 m4
        have y := y1.trans (y2.trans (y3.trans y4))
        refine ⟨_, rfl, p, 2, rfl, R2.same y, by decide, by decide, fun M5 a5 b5 o1 o2 o3 o4 => ?_⟩
        refine ⟨(by show 3 ≤ sizeLine; decide), fun a6 m6 => ?_⟩
        generalize ga6 : upd _ a6 _ = M6
        obtain ⟨y6, x6, _⟩ := laid ga6 m6
        have fl6 : M6 fl = some (.lst vr) := y6 _ _ (o1 _ _ flp (y _ _ R0))
        refine ⟨fl, a6, _, _, rfl, rfl, fl6, x6, Nat.le_trans (by simp only [List.length_append, List.length_cons, List.length_nil]; omega) big, fun a7 m7 => ?_⟩
        generalize ga7 : upd _ a7 _ = M7
        obtain ⟨y7, x7, _⟩ := laid ga7 m7
        have s4 := R2.same y
        have kp7 : Kp p H M7 := ((R1.trans (Same.kp y)).trans o1).trans (Same.kp (y6.trans y7))
        have m7H : H a7 = none := Kp.none (((R1.trans (Same.kp y)).trans o1).trans (Same.kp y6)) hs m7 (o2.same y6)
        have thR : SqT K M2 a1 (b.things.reverse.map V.str) := by rw [List.map_reverse]; exact .inl (.inl (y2 _ _ x1))
        have B1 : BaseAt K M4 a2 ⟨b.things.reverse, b.ws⟩ := ⟨a1, wt, es, .inl (.inl ((y3.trans y4) _ _ x2)), SqT.same thR (y3.trans y4), SqT.same R5 y, Paired.imp2 (fun _ _ (h : EAt K _ _ _) => h.same y) R6⟩
        have B2 : BaseAt K M4 a4 ⟨b.things, b.ws.reverse⟩ := ⟨th, a3, es.reverse, .inl (.inl x4), SqT.same R4 y, .inl (.inl (y4 _ _ x3)), Paired.rv (Paired.imp2 (fun _ _ (h : EAt K _ _ _) => h.same y) R6)⟩
        have lift : ∀ {u c}, BaseAt K M4 u c → BaseAt K M7 u c := fun {u c} h => (h.src o1 s4).same (y6.trans y7)
        refine q M7 a7 _ kp7 ((o2.same y6).same y7) x7 (fun v hv => ?_) (by simp only [List.length_append, List.length_cons, List.length_nil]; omega) m7H
        rcases List.mem_append.mp hv with hv | hv
        · obtain ⟨u, c, h1', h2', h3'⟩ := R8 v hv
          exact ⟨u, c, h1', lift (h2'.same y), h3'⟩
        · simp only [List.mem_cons, List.not_mem_nil, or_false] at hv
          rcases hv with hv | hv | hv
          · exact ⟨a2, _, hv, lift B1, WF.revT wf⟩
          · exact ⟨a4, _, hv, lift B2, WF.revW wf⟩
          · exact ⟨a5, b5, hv, o3.same (y6.trans y7), o4⟩
      · skip
        refine ⟨_, rfl, _, rfl, th, _, rfl, P4, fun a1 m1 => ?_⟩
        generalize ga1 : upd _ a1 _ = M1
        obtain ⟨y1, x1, _⟩ := laid ga1 m1
        refine ⟨_, rfl, (by show 2 ≤ sizeLine; decide), fun a2 m2 => ?_⟩
        generalize ga2 : upd _ a2 _ = M2
        obtain ⟨y2, x2, _⟩ := laid ga2 m2
        refine ⟨_, rfl, _, rfl, wt, _, rfl, SqT.same P5 (y1.trans y2), fun a3 m3 => ?_⟩
        generalize ga3 : upd _ a3 _ = M3
        obtain ⟨y3, x3, _⟩ := laid ga3 m3
        refine ⟨(by show 2 ≤ sizeLine; decide), fun a4 m4 => ?_⟩
        generalize ga4 : upd _ a4 _ = M4
        obtain ⟨y4, x4, _⟩ := laid ga4 m4
        have y := y1.trans (y2.trans (y3.trans y4))
        refine ⟨_, rfl, p, 2, rfl, P2.same y, by decide, by decide, fun M5 a5 b5 o1 o2 o3 o4 => ?_⟩
        refine ⟨(by show 3 ≤ sizeLine; decide), fun a6 m6 => ?_⟩
        generalize ga6 : upd _ a6 _ = M6
        obtain ⟨y6, x6, _⟩ := laid ga6 m6
        have fl6 : M6 fl = some (.lst vs) := y6 _ _ (o1 _ _ flp (y _ _ P0))
        refine ⟨fl, a6, _, _, rfl, rfl, fl6, x6, Nat.le_trans (by simp only [List.length_append, List.length_cons, List.length_nil]; omega) big, fun a7 m7 => ?_⟩
        generalize ga7 : upd _ a7 _ = M7
        obtain ⟨y7, x7, _⟩ := laid ga7 m7
        have s4 := P2.same y
        have kp7 : Kp p H M7 := ((P1.trans (Same.kp y)).trans o1).trans (Same.kp (y6.trans y7))
        have m7H : H a7 = none := Kp.none (((P1.trans (Same.kp y)).trans o1).trans (Same.kp y6)) hs m7 (o2.same y6)
        have thR : SqT K M2 a1 (b.things.reverse.map V.str) := by rw [List.map_reverse]; exact .inl (.inl (y2 _ _ x1))
        have B1 : BaseAt K M4 a2 ⟨b.things.reverse, b.ws⟩ := ⟨a1, wt, es, .inl (.inl ((y3.trans y4) _ _ x2)), SqT.same thR (y3.trans y4), SqT.same P5 y, Paired.imp2 (fun _ _ (h : EAt K _ _ _) => h.same y) P6⟩
        have B2 : BaseAt K M4 a4 ⟨b.things, b.ws.reverse⟩ := ⟨th, a3, es.reverse, .inl (.inl x4), SqT.same P4 y, .inl (.inl (y4 _ _ x3)), Paired.rv (Paired.imp2 (fun _ _ (h : EAt K _ _ _) => h.same y) P6)⟩
        have lift : ∀ {u c}, BaseAt K M4 u c → BaseAt K M7 u c := fun {u c} h => (h.src o1 s4).same (y6.trans y7)
        refine q M7 a7 _ kp7 ((o2.same y6).same y7) x7 (fun v hv => ?_) (by simp only [List.length_append, List.length_cons, List.length_nil]; omega) m7H
        rcases List.mem_append.mp hv with hv | hv
        · obtain ⟨u, c, h1', h2', h3'⟩ := P8 v hv
          exact ⟨u, c, h1', lift (h2'.same y), h3'⟩
        · simp only [List.mem_cons, List.not_mem_nil, or_false] at hv
          rcases hv with hv | hv | hv
          · exact ⟨a2, _, hv, lift B1, WF.revT wf⟩
          · exact ⟨a4, _, hv, lift B2, WF.revW wf⟩
          · exact ⟨a5, b5, hv, o3.same (y6.trans y7), o4⟩

end
end K02

namespace K02
open PySem PySem.Spec PyProof.Rows L2 Gx
section
variable {P : Program} {w : World} {K : PySem.W.Frag} {mg : Str → Option Value} {base : Heap}

def rMulS : R2 := fun x y H Q => ∃ (z : Str) (k : Int), x = .str z ∧ y = .int k ∧ 2 ≤ k ∧ k ≤ 1000 ∧ 0 < z.length ∧ z.length ≤ 1000 ∧ (⟨(List.replicate k.toNat z.cps).foldl (· ++ ·) #[]⟩ : Str).length ≤ sizeLine ∧ Q (.str ⟨(List.replicate k.toNat z.cps).foldl (· ++ ·) #[]⟩) H
theorem op_mulS {X : Cx} : OpR X (binaryOp .Mult) rMulS := by
  intro pins s σ H x y v u Q I rx ry h
  obtain ⟨z, k, rfl, rfl, k2, k1, z0, z1, hz, q⟩ := h
  obtain ⟨t, rfl⟩ := rx
  obtain ⟨t', rfl⟩ := ry
  have e1 : (k == 1 || z.length == 0) = false := by
    have a1 : (k == 1) = false := beq_eq_false_iff_ne.mpr (by omega)
    have a2 : (z.length == 0) = false := beq_eq_false_iff_ne.mpr (by omega)
    rw [a1, a2]
    rfl
  refine PySem.P.mul_str (by
    have h1 : ¬ k < -(2 ^ 63 : Int) := by omega
    have h2 : ¬ k ≥ 2 ^ 63 := by omega
    rw [decide_eq_false h1, decide_eq_false h2]; rfl) (fun _ _ => ?_) (fun _ _ => ?_) ?_
  · have h3 : (1000 : Int) ≤ (2 ^ 63 - 1) / k := by
      refine (Int.le_ediv_iff_mul_le (by omega)).mpr ?_
      omega
    omega
  · unfold Builtin.Str.tooLong
    refine decide_eq_false ?_
    have h4 : z.length * k.toNat ≤ 1000 * 1000 := Nat.mul_le_mul z1 (by omega)
    have h5 : (1000 * 1000 : Nat) ≤ sizeLine := by decide
    omega
  · rw [if_neg (by omega), e1, if_neg (by decide)]
    exact ⟨hz, .str _, H, I.tok _, ⟨_, rfl⟩, q⟩
theorem nm_nmB {x : Str} (h : NM x) : nmB x = true := by
  unfold nmB
  simp only [Bool.and_eq_true, decide_eq_true_eq, List.all_eq_true]
  exact ⟨h.1, h.2.1, fun c hc => h.2.2 c hc⟩
theorem late0 : putK ([] : List (Key × V)) (Sum.inr "late") (V.int 0) = [((Sum.inr "late" : Key), V.int 0)] := rfl
theorem late1 : putK ([((Sum.inr "late" : Key), V.int 0)] : List (Key × V)) (Sum.inr "late") (V.int 0) = [((Sum.inr "late" : Key), V.int 0)] := by
  unfold putK
  simp
def zs (k : Nat) : List V := List.replicate k (.int 0)
def zd (k : Nat) : List PyData := List.replicate k (.int 0)
theorem zs_app (k : Nat) : zs k ++ [V.int 0] = zs (k + 1) := by
  unfold zs
  rw [List.replicate_succ']
theorem zs_data {H : Hp} (k : Nat) : DqAll K H (zs k) (zd k) := by
  induction k with
  | zero => exact .nil
  | succ k ih => exact .cons (.int 0) ih
def FX : List PyData := [.none, .int 5, .bool true, .dict [], .dict [(.str "late", .int 0)], .tuple [.list [.str "a"], .int 1]] ++ (List.range 60).map (fun k => .list (.str "a" :: zd k))
theorem len_app (a b : Str) : (a ++ b).length = a.length + b.length := by
  show (a.cps ++ b.cps).size = _
  exact Array.size_append
theorem nine_len (z : Str) : (⟨(List.replicate (9 : Int).toNat z.cps).foldl (· ++ ·) #[]⟩ : Str).length = 9 * z.length := by
  show ((List.replicate 9 z.cps).foldl (· ++ ·) #[]).size = 9 * z.cps.size
  simp only [List.replicate, List.foldl, Array.size_append]
  have : (#[] : Array Nat).size = 0 := rfl
  omega
theorem nine_mem (z : Str) {c : Nat} (h : c ∈ (⟨(List.replicate (9 : Int).toNat z.cps).foldl (· ++ ·) #[]⟩ : Str).cps.toList) : c ∈ z.cps.toList := by
  have h2 : c ∈ ((List.replicate 9 z.cps).foldl (· ++ ·) #[]).toList := h
  simp only [List.replicate, List.foldl, Array.toList_append, List.mem_append] at h2
  simpa using h2
theorem list1_len (t : Str) : (listText [t]).length = t.length + 2 := by
  unfold listText
  show (((("[" : Str) ++ ((if 0 > 0 then ", " else "" : String) : Str)) ++ t) ++ ("]" : Str)).length = _
  rw [len_app, len_app, len_app]
  have e1 : (("[" : Str)).length = 1 := rfl
  have e2 : ((((if 0 > 0 then ", " else "" : String)) : Str)).length = 0 := rfl
  have e3 : (("]" : Str)).length = 1 := rfl
  omega
theorem tup1_len (t : Str) : (tupleText [t]).length = t.length + 3 := by
  unfold tupleText
  rw [len_app, len_app]
  have h := join_length_add [t] (by simp)
  have h2 : piled [t] = t.length + 2 := by simp [piled]
  have e1 : (("(" : Str)).length = 1 := rfl
  have e3 : ((((if ([t] : List Str).length == 1 then ",)" else ")" : String)) : Str)).length = 2 := rfl
  omega
structure OkD (d : PyData) : Prop where
  os : (PyData.list [d]).showable = true
  od : (PyData.list [d]).depth ≤ 60
  ol : (PyData.list [d]).shown.length ≤ sizeLine
def okD (d : PyData) : Bool := (PyData.list [d]).showable && (decide ((PyData.list [d]).depth ≤ 60) && decide ((PyData.list [d]).shown.length ≤ 100000))
theorem fx_ok : ∀ d ∈ FX, OkD d := by
  have h : FX.all okD = true := by decide +kernel
  intro d hd
  have k := List.all_eq_true.mp h d hd
  simp only [okD, Bool.and_eq_true, decide_eq_true_eq] at k
  exact ⟨k.1, k.2.1, Nat.le_trans k.2.2 (by decide : (100000 : Nat) ≤ sizeLine)⟩
/-- a text that is short and plain -/
def ShS (z : Str) : Prop := z.length ≤ 1000 ∧ ∀ c ∈ z.cps.toList, c < 16 ^ 8
theorem ShS.len {z : Str} (h : ShS z) : (reprText z).length ≤ 10002 := by
  have := PySem.StrLaws.reprText_len z h.2
  have := h.1
  omega
theorem str_ok {z : Str} (h : ShS z) : OkD (.str z) := by
  refine ⟨by simp [PyData.showable, PyData.showableAll], by simp [PyData.depth, PyData.depthAll], ?_⟩
  simp only [PyData.shown, PyData.shownAll]
  rw [list1_len]
  have := h.len
  rw [sizeLine_eq]
  omega
theorem tup_ok {z : Str} (h : ShS z) : OkD (.tuple [.str z]) := by
  refine ⟨by simp [PyData.showable, PyData.showableAll], by simp [PyData.depth, PyData.depthAll], ?_⟩
  simp only [PyData.shown, PyData.shownAll]
  rw [list1_len, tup1_len]
  have := h.len
  rw [sizeLine_eq]
  omega
theorem nmSh {z : Str} (h : NM z) : ShS z := ⟨by have := h.2.1; omega, fun c hc => by have := h.2.2 c hc; omega⟩
structure SS (K : PySem.W.Frag) (H H' : Hp) (l1 t1 d l2 t2 bl : Addr) (n0 : Str) (vs : List V) (c : Nat) : Prop where
  s : Same H H'
  e1 : ∃ k, k ≤ c ∧ H' l1 = some (.lst (.str "a" :: zs k))
  et1 : H' t1 = some (.tup [.str n0])
  ed : H' d = some (.dK []) ∨ H' d = some (.dK [(.inr "late", .int 0)])
  e2 : H' l2 = some (.lst [.str "a"])
  et2 : H' t2 = some (.tup [.ref l2, .int 1])
  eb : H' bl = some (.lst vs)
  n1 : H l1 = none
  nd : H d = none
  n12 : l1 ≠ l2
  n1b : l1 ≠ bl
  sh : ShS n0
section
variable {H H' H'' : Hp} {l1 t1 d l2 t2 bl : Addr} {n0 : Str} {vs : List V} {c : Nat}
theorem SS.same (S : SS K H H' l1 t1 d l2 t2 bl n0 vs c) (k : Same H' H'') : SS K H H'' l1 t1 d l2 t2 bl n0 vs c := by
  obtain ⟨h1, ⟨k1, i1, h2⟩, h3, h4, h5, h6, h7, r1, r2, r3, r4, r5⟩ := S
  exact ⟨h1.trans k, ⟨k1, i1, k _ _ h2⟩, k _ _ h3, h4.imp (k _ _) (k _ _), k _ _ h5, k _ _ h6, k _ _ h7, r1, r2, r3, r4, r5⟩
theorem SS.app (S : SS K H H' l1 t1 d l2 t2 bl n0 vs c) {k : Nat} (e : H' l1 = some (.lst (.str "a" :: zs k))) (hk : k ≤ c) : SS K H (upd H' l1 (.lst ((.str "a" :: zs k) ++ [.int 0]))) l1 t1 d l2 t2 bl n0 vs (c + 1) := by
  obtain ⟨h1, _, h3, h4, h5, h6, h7, m1, md, m2, m3, sh⟩ := S
  refine ⟨Same.over h1 m1, ⟨k + 1, by omega, by rw [upd_same, List.cons_append, zs_app]⟩, ?_, ?_, ?_, ?_, ?_, m1, md, m2, m3, sh⟩
  · rw [upd_ne (ne_of h3 e (by simp))]; exact h3
  · rcases h4 with h4 | h4
    · rw [upd_ne (ne_of h4 e (by simp))]; exact .inl h4
    · rw [upd_ne (ne_of h4 e (by simp))]; exact .inr h4
  · rw [upd_ne (Ne.symm m2)]; exact h5
  · rw [upd_ne (ne_of h6 e (by simp))]; exact h6
  · rw [upd_ne (Ne.symm m3)]; exact h7
theorem SS.put (S : SS K H H' l1 t1 d l2 t2 bl n0 vs c) : SS K H (upd H' d (.dK [(.inr "late", .int 0)])) l1 t1 d l2 t2 bl n0 vs c := by
  obtain ⟨h1, ⟨k, hk, e⟩, h3, h4, h5, h6, h7, m1, md, m2, m3, sh⟩ := S
  have f : ∀ {a o}, H' a = some o → (∀ kvs, o ≠ .dK kvs) → (upd H' d (.dK [(.inr "late", .int 0)])) a = some o := fun {a o} q n => by
    rw [upd_ne]
    · exact q
    · rcases h4 with h4 | h4
      · exact ne_of q h4 (n _)
      · exact ne_of q h4 (n _)
  exact ⟨Same.over h1 md, ⟨k, hk, f e (by simp)⟩, f h3 (by simp), .inr upd_same, f h5 (by simp), f h6 (by simp), f h7 (by simp), m1, md, m2, m3, sh⟩
/-- what may be among the values -/
def Itm (b : Bs) (l1 t1 d t2 : Addr) (v : V) : Prop := v = .non ∨ v = .int 5 ∨ v = .bl true ∨ v = .ref l1 ∨ v = .ref t1 ∨ v = .ref d ∨ v = .ref t2 ∨ ∃ z, v = .str z ∧ ShS z ∧ z ∉ b.names
theorem SS.data (S : SS K H H' l1 t1 d l2 t2 bl n0 vs c) (hc : c < 60) {b : Bs} {v : V} (hv : Itm b l1 t1 d t2 v) : ∃ dv, OkD dv ∧ Dq K H' v dv := by
  obtain ⟨h1, ⟨k, hk, e⟩, h3, h4, h5, h6, h7, m1, md, m2, m3, sh⟩ := S
  rcases hv with rfl | rfl | rfl | rfl | rfl | rfl | rfl | ⟨z, rfl, hz, _⟩
  · exact ⟨_, fx_ok .none (by simp [FX]), .non⟩
  · exact ⟨_, fx_ok (.int 5) (by simp [FX]), .int _⟩
  · exact ⟨_, fx_ok (.bool true) (by simp [FX]), .bl _⟩
  · exact ⟨_, fx_ok (.list (.str "a" :: zd k)) (by simp only [FX, List.mem_append, List.mem_map, List.mem_range]; exact .inr ⟨k, by omega, rfl⟩), .lst (SqL.of e) (.cons (.str _) (zs_data k))⟩
  · exact ⟨_, tup_ok sh, .tup (SqT.of h3) (.cons (.str _) .nil)⟩
  · rcases h4 with h4 | h4
    · exact ⟨_, fx_ok (.dict []) (by simp [FX]), .dic h4 .nil⟩
    · exact ⟨_, fx_ok (.dict [(.str "late", .int 0)]) (by simp [FX]), .dic h4 (.cons (.int 0) .nil)⟩
  · exact ⟨_, fx_ok (.tuple [.list [.str "a"], .int 1]) (by simp [FX]), .tup (SqT.of h6) (.cons (.lst (SqL.of h5) (.cons (.str _) .nil)) (.cons (.int _) .nil))⟩
  · exact ⟨_, str_ok hz, .str _⟩
theorem SS.bad (S : SS K H H' l1 t1 d l2 t2 bl n0 vs c) {b : Bs} {v : V} (hv : Itm b l1 t1 d t2 v) : BadX K H' b v := by
  obtain ⟨h1, ⟨k, hk, e⟩, h3, h4, h5, h6, h7, m1, md, m2, m3, sh⟩ := S
  rcases hv with rfl | rfl | rfl | rfl | rfl | rfl | rfl | ⟨z, rfl, hz, hn⟩
  · exact .inl (.flat rfl (by simp))
  · exact .inl (.flat rfl (by simp))
  · exact .inl (.flat rfl (by simp))
  · exact .inl (.lst (SqL.of e))
  · exact .inl (.tup (SqT.of h3))
  · rcases h4 with h4 | h4
    · exact .inl (.dic h4)
    · exact .inl (.dic h4)
  · exact .inl (.tup (SqT.of h6))
  · exact .inr ⟨z, rfl, hn⟩
theorem SS.type (S : SS K H H' l1 t1 d l2 t2 bl n0 vs c) {b : Bs} {v : V} (hv : Itm b l1 t1 d t2 v) : ∃ T : String, T ∈ ["list", "dict", "NoneType", "str", "tuple", "bool", "int"] ∧ TyX K H' v (.type T) ∧ (T = "list" → v = .ref l1) ∧ (T = "dict" → v = .ref d) := by
  obtain ⟨h1, ⟨k, hk, e⟩, h3, h4, h5, h6, h7, m1, md, m2, m3, sh⟩ := S
  rcases hv with rfl | rfl | rfl | rfl | rfl | rfl | rfl | ⟨z, rfl, hz, hn⟩
  · exact ⟨"NoneType", by simp, .base .non, by simp, by simp⟩
  · exact ⟨"int", by simp, .base (.int _), by simp, by simp⟩
  · exact ⟨"bool", by simp, .base (.bl _), by simp, by simp⟩
  · exact ⟨"list", by simp, .base (.lst e), by simp, by simp⟩
  · exact ⟨"tuple", by simp, .base (.tup h3), by simp, by simp⟩
  · refine ⟨"dict", by simp, ?_, by simp, by simp⟩
    rcases h4 with h4 | h4
    · exact .base (.dK h4)
    · exact .base (.dK h4)
  · exact ⟨"tuple", by simp, .base (.tup h6), by simp, by simp⟩
  · exact ⟨"str", by simp, .base (.str _), by simp, by simp⟩
end
theorem kit_list {T : String} (h : T ∈ ["list", "dict", "NoneType", "str", "tuple", "bool", "int"]) : PySem.W.kitOne K (.type T) (.type "list") = some (decide (T = "list")) := by
  simp only [List.mem_cons, List.not_mem_nil, or_false] at h
  rcases h with rfl | rfl | rfl | rfl | rfl | rfl | rfl
  all_goals exact kit_ty (by decide +kernel)
theorem kit_dict {T : String} (h : T ∈ ["list", "dict", "NoneType", "str", "tuple", "bool", "int"]) : PySem.W.kitOne K (.type T) (.type "dict") = some (decide (T = "dict")) := by
  simp only [List.mem_cons, List.not_mem_nil, or_false] at h
  rcases h with rfl | rfl | rfl | rfl | rfl | rfl | rfl
  all_goals exact kit_ty (by decide +kernel)
def spStrangers (K : PySem.W.Frag) : Sp := fun vs H Q _ => ∃ t m b, vs = [.ref t, .ref m] ∧ BaseAt K H t b ∧ IsM K H m b ∧ WF b ∧ ∀ H', Same H H' → Q (.bl true) H'
theorem ca_law_strangers_right (F : Facts K mg) : CaG P w K mg base CX0 6 "_law_strangers_right" (spStrangers K) := by
  obtain ⟨fd, D⟩ := fun_law_strangers_right F
  refine ⟨_, fd, ["base", "menu"], FnG.body D sc_law_strangers_right (fun vs H Q E h => ?_) (fun cdv A outer s H vs Q E hg hr h => ?_), D.bindsN fun _ _ _ _ _ _ us hl => match us, hl with | [_, _], _ => rfl, g__law_strangers_right F, D.kp⟩
  · obtain ⟨_, _, _, rfl, _⟩ := h
    rfl
  · have hu := hu_of hr
    skip
    refine ⟨_, PSs.nox (pss_cons (ps_set (i := 2) sc_law_strangers_right.nd rfl (Or.inr rfl) (pe_lc (own := [("entry", 6)]) (g := gName 6) rfl sc_law_strangers_right.nd (pi_tup (pe_ix (ix_tupK (K := K) rfl) (pv 0) pe_int (fun _ _ => rfl))) (blkOk_by (own := [("entry", 6)]) (N := ["base", "menu", "names", "some", "thing", "way", "entry", "caught"]) (sc := defScope s_law_strangers_right) (by decide +kernel)) (fun _ _ _ _ _ => (pg_name (i := 6) sc_law_strangers_right.nd rfl (Or.inl rfl))) (fun _ _ _ _ _ => pts_nil) (fun _ _ _ _ _ => (pe_ix (ix_tupK (K := K) rfl) (pv 6) pe_int (fun _ _ => rfl)))))
    (pss_cons (ps_set (i := 3) sc_law_strangers_right.nd rfl (Or.inl rfl) (pe_lst (pa_cons pe_non (pa_cons pe_int (pa_cons pe_str (pa_cons pe_str (pa_cons (pe_lst (pa_cons pe_str pa_nil)) (pa_cons (pe_tup (pa_cons (pe_ix (ix_listK (K := K) rfl) (pv 2) pe_int (fun _ _ => rfl)) pa_nil)) (pa_cons pe_dnewK (pa_cons pe_bl (pa_cons (pe_tup (pa_cons (pe_lst (pa_cons pe_str pa_nil)) (pa_cons pe_int pa_nil))) (pa_cons (pe_ca (ca_law_stranger F) (hr.mono (by decide)) rfl pass0 (pa_cons (pv 0) pa_nil)) (pa_cons (pe_op op_add_str (pe_ix (ix_listK (K := K) rfl) (pv 2) pe_int (fun _ _ => rfl)) pe_str) pa_nil)))))))))))))
    (pss_cons (ps_for PassesOwn.never rfl (pi_list (pe_op op_cat (pe_op op_cat (pv 3) (pe_lst (pa_cons (pe_op op_mulS (pe_ix (ix_listK (K := K) rfl) (pv 2) pe_int (fun _ _ => rfl)) pe_int) pa_nil))) (pe_lc (own := [("thing", 4)]) (g := gName 4) rfl sc_law_strangers_right.nd (pi_tup (pe_ix (ix_tupK (K := K) rfl) (pv 0) pe_int (fun _ _ => rfl))) (blkOk_by (own := [("thing", 4)]) (N := ["base", "menu", "names", "some", "thing", "way", "entry", "caught"]) (sc := defScope s_law_strangers_right) (by decide +kernel)) (fun _ _ _ _ _ => (pg_name (i := 4) sc_law_strangers_right.nd rfl (Or.inl rfl))) (fun _ _ _ _ _ => (pts_one (pt_cmpR (op_notIn_seqK (K := K) rfl) (pv 4) (pv 2) (by rfl)))) (fun _ _ _ _ _ => (pv 4))))) (pg_name (i := 4) sc_law_strangers_right.nd rfl (Or.inl rfl))
      (pss_one (ps_for PassesOwn.never rfl (pi_range1 rfl (z_range F) (pa_cons pe_int pa_nil)) (pg_name (i := 5) sc_law_strangers_right.nd rfl (Or.inl rfl))
      (pss_cons (ps_set (i := 7) sc_law_strangers_right.nd rfl (Or.inl rfl) (pe_ca (ca_law_refused F) (hr.mono (by decide)) rfl pass0 (pa_cons (pv 5) (pa_cons (pv 1) (pa_cons (pv 4) pa_nil)))))
    (pss_cons (ps_if (pt_val (pe_callB call_isi (by rfl) (z_isinstance F) (by decide +kernel) (pa_cons (pv 4) (pa_cons (pe_bltn (v := .ty "list") (by rfl) (z_list F) (by decide +kernel) rfl) pa_nil)))) (pss_one (ps_expr (pe_bm PySem.F.plainAttrs_list PySem.F.slot_list_append PySem.F.type_list_append mt_append (pv 4) (pa_cons pe_int pa_nil)))) pss_nil)
    (pss_cons (ps_if (pt_val (pe_callB call_isi (by rfl) (z_isinstance F) (by decide +kernel) (pa_cons (pv 4) (pa_cons (pe_bltn (v := .ty "dict") (by rfl) (z_dict F) (by decide +kernel) rfl) pa_nil)))) (pss_one (ps_dput hu (pv 4) pe_str pe_int rfl)) pss_nil)
    (pss_one (ps_if (pt_cmpR op_ne (pe_callB (call_repr F.sys hg hr.units) (by rfl) (z_repr F) (by decide +kernel) (pa_cons (pv 7) pa_nil)) (pe_callB (call_repr F.sys hg hr.units) (by rfl) (z_repr F) (by decide +kernel) (pa_cons (pe_lst (pa_cons (pv 4) pa_nil)) pa_nil)) (nomark _)) (pss_one (ps_ret pe_bl)) pss_nil))))))))
    (pss_one (ps_ret pe_bl))))), ?_⟩
    obtain ⟨t, m, b, rfl, hB, hM, wf, q⟩ := h
    have hB0 := hB
    obtain ⟨th, wt, es, h1, h2, h3, h4⟩ := hB
    have el : es.length = b.ws.length := Paired.length h4
    have w4 := wf.w4
    have w1 := wf.w1
    have t5 := wf.t5
    have big : (100 : Nat) ≤ sizeLine := by decide
    refine ⟨_, rfl, t, _, 1, _, rfl, rfl, h1, rfl, wt, rfl, ⟨_, h3⟩, fun nl hD => lc_it walk_tup (fun i H' => Same H H' ∧ H' nl = some (.lst ((b.names.take i).map V.str))) ⟨Same.new hD, by rw [List.take_zero]; exact upd_same⟩ (fun i H' _ z => SqT.same h3 z.1) (fun i x H2 H' hi z y => ?_) (fun HA z => ?_)⟩
    · obtain ⟨rfl, hx⟩ := y
      obtain ⟨z1, z2⟩ := z
      obtain ⟨e, he, a, w1, l2, rfl, f1, f2, f3⟩ := Paired.at2 h4 hx
      have lz : (((b.names.take i).map V.str)).length < 1000 := by rw [List.length_map, List.length_take]; omega
      refine ⟨rfl, ?_⟩
      refine ⟨_, rfl, a, _, 0, _, rfl, rfl, SqT.same f1 z1, rfl, _, z2, Nat.lt_of_lt_of_le lz (by decide), Same.over z1 hD, ?_⟩
      rw [upd_same, List.take_succ]
      unfold Bs.names
      rw [List.getElem?_map, he]
      simp
    obtain ⟨sA, eA⟩ := z
    rw [show b.names.take es.length = b.names from by unfold Bs.names; rw [el]; exact List.take_of_length_le (by simp)] at eA
    obtain ⟨n0, ns, en⟩ : ∃ n0 ns, b.names = n0 :: ns := by
      unfold Bs.names
      cases e : b.ws with
      | nil => rw [e] at w1; simp at w1
      | cons a l => exact ⟨a.name, l.map Ent.name, rfl⟩
    have n0m : n0 ∈ b.names := by rw [en]; exact List.mem_cons_self
    have n0n : NM n0 := wf.wn _ n0m
    have at0 : atI (b.names.map V.str) 0 = some (.str n0) := by rw [en]; exact atI_nat (j := 0) rfl
    refine ⟨(by show 1 ≤ sizeLine; decide), fun l1 nl1 => ?_⟩
    generalize g1 : upd _ l1 _ = H1
    obtain ⟨s1, e1, _⟩ := laid g1 nl1
    refine ⟨_, rfl, nl, _, 0, _, rfl, rfl, SqL.of (s1 _ _ eA), at0, (by show 1 ≤ sizeLine; decide), fun t1 nt1 => ?_⟩
    generalize g2 : upd _ t1 _ = H2
    obtain ⟨s2, e2, _⟩ := laid g2 nt1
    intro d nd
    generalize g3 : upd _ d _ = H3
    obtain ⟨s3, e3, _⟩ := laid g3 nd
    refine ⟨(by show 1 ≤ sizeLine; decide), fun l2 nl2 => ?_⟩
    generalize g4 : upd _ l2 _ = H4
    obtain ⟨s4, e4, _⟩ := laid g4 nl2
    refine ⟨(by show 2 ≤ sizeLine; decide), fun t2 nt2 => ?_⟩
    generalize g5 : upd _ t2 _ = H5
    obtain ⟨s5, e5, _⟩ := laid g5 nt2
    have s15 := s1.trans (s2.trans (s3.trans (s4.trans s5)))
    refine ⟨_, rfl, t, b, rfl, hB0.same (sA.trans s15), wf, fun H6 sx s6 nmx ntx nnx => ?_⟩
    refine ⟨_, rfl, nl, _, 0, _, rfl, rfl, SqL.of (s6 _ _ (s15 _ _ eA)), at0, _, _, rfl, rfl, Nat.le_trans (by have := n0n.2.1; show n0.length + 1 ≤ 100; omega) big, (by show 11 ≤ sizeLine; decide), fun sm nsm => ?_⟩
    generalize g7 : upd _ sm _ = H7
    obtain ⟨s7, e7, _⟩ := laid g7 nsm
    have s17 := s15.trans (s6.trans s7)
    have n9 : (⟨(List.replicate (9 : Int).toNat n0.cps).foldl (· ++ ·) #[]⟩ : Str).length = 9 * n0.length := nine_len n0
    refine ⟨_, rfl, _, rfl, nl, _, 0, _, rfl, rfl, SqL.of (s17 _ _ eA), at0, n0, 9, rfl, rfl, by decide, by decide, n0n.1, by have := n0n.2.1; omega, Nat.le_trans (by rw [n9]; have := n0n.2.1; omega) big, (by show 1 ≤ sizeLine; decide), fun nq nnq => ?_⟩
    generalize g8 : upd _ nq _ = H8
    obtain ⟨s8, e8, _⟩ := laid g8 nnq
    refine ⟨sm, nq, _, _, rfl, rfl, s8 _ _ e7, e8, (by show 11 + 1 ≤ sizeLine; decide), fun cq ncq => ?_⟩
    generalize g9 : upd _ cq _ = H9
    obtain ⟨s9, e9, _⟩ := laid g9 ncq
    have s19 := s17.trans (s8.trans s9)
    have S9 : Same H H9 := sA.trans s19
    have eA9 := s19 _ _ eA
    refine ⟨_, rfl, t, _, 0, _, rfl, rfl, SqT.same h1 S9, rfl, th, rfl, ⟨_, SqT.same h2 S9⟩, fun D2 hD2 => lc_it walk_tup (fun i H' => Same H9 H' ∧ H' D2 = some (.lst (((b.things.take i).filter fun x => !decide (x ∈ b.names)).map V.str))) ⟨Same.new hD2, by rw [List.take_zero]; exact upd_same⟩ (fun i H' _ z => SqT.same h2 (S9.trans z.1)) (fun i x H5' H6' hi z y => ?_) (fun H10 z => ?_)⟩
    · obtain ⟨rfl, hx⟩ := y
      obtain ⟨y1, y2⟩ := z
      rw [List.getElem?_map] at hx
      obtain ⟨nm, hnm, rfl⟩ := Option.map_eq_some_iff.mp hx
      refine ⟨rfl, ?_⟩
      refine ⟨_, rfl, _, rfl, nl, _, rfl, .inl (SqL.of (y1 _ _ eA9)), rfl, flat_texts _, ?_⟩
      rw [show (if true = true then !inV (.str nm) (b.names.map V.str) else inV (.str nm) (b.names.map V.str)) = !decide (nm ∈ b.names) from by rw [in_texts]; rfl]
      refine ⟨_, rfl, ?_⟩
      have stp : (b.things.take (i + 1)).filter (fun x => !decide (x ∈ b.names)) = (b.things.take i).filter (fun x => !decide (x ∈ b.names)) ++ (if (!decide (nm ∈ b.names)) = true then [nm] else []) := by
        rw [List.take_succ, hnm, List.filter_append]
        simp only [Option.toList_some, List.filter_cons, List.filter_nil]
      cases c : (!decide (nm ∈ b.names)) with
      | true =>
        refine ⟨_, rfl, _, y2, ?_, Same.over y1 hD2, ?_⟩
        · refine Nat.lt_of_lt_of_le (Nat.lt_of_le_of_lt (m := 5) ?_ (by decide)) (Nat.le_refl _)
          rw [List.length_map]
          refine Nat.le_trans (List.length_filter_le _ _) ?_
          rw [List.length_take]
          omega
        · rw [upd_same, stp, c]
          simp
      | false =>
        refine ⟨y1, ?_⟩
        rw [y2, stp, c]
        simp
    obtain ⟨s10, e10⟩ := z
    rw [show b.things.take (b.things.map V.str).length = b.things from by rw [List.length_map, List.take_length]] at e10
    have fl5 : (b.things.filter fun x => !decide (x ∈ b.names)).length ≤ 5 := Nat.le_trans (List.length_filter_le _ _) t5
    refine ⟨cq, D2, _, _, rfl, rfl, s10 _ _ e9, e10, Nat.le_trans (by simp only [List.length_append, List.length_cons, List.length_nil, List.length_map]; omega) big, fun bl nbl => ?_⟩
    generalize g11 : upd _ bl _ = H11
    obtain ⟨s11, e11, _⟩ := laid g11 nbl
    have sp : ShS (n0 ++ " ") ∧ n0 ++ " " ∉ b.names := by
      have e : (n0 ++ " ").cps.toList = n0.cps.toList ++ [32] := by
        show (n0.cps ++ (Str.ofString " ").cps).toList = _
        rw [Array.toList_append]
        rfl
      refine ⟨⟨?_, fun c hc => ?_⟩, fun h => ?_⟩
      · show (n0.cps ++ (Str.ofString " ").cps).size ≤ 1000
        rw [Array.size_append]
        have := n0n.2.1
        have e3 : (Str.ofString " ").cps.size = 1 := rfl
        have e4 : n0.length = n0.cps.size := rfl
        omega
      · rw [e] at hc
        rcases List.mem_append.mp hc with h | h
        · exact (nmSh n0n).2 c h
        · simp at h
          omega
      · have := (wf.wn _ h).2.2 32 (by rw [e]; simp)
        omega
    have s9' : ShS (⟨(List.replicate (9 : Int).toNat n0.cps).foldl (· ++ ·) #[]⟩ : Str) ∧ (⟨(List.replicate (9 : Int).toNat n0.cps).foldl (· ++ ·) #[]⟩ : Str) ∉ b.names := by
      refine ⟨⟨by rw [n9]; have := n0n.2.1; omega, fun c hc => (nmSh n0n).2 c (nine_mem n0 hc)⟩, fun h => ?_⟩
      have := (wf.wn _ h).2.1
      rw [n9] at this
      have := n0n.1
      omega
    have fx : ∀ z : Str, nmB z = false → z ∉ b.names := fun z hz h => by
      rw [nm_nmB (wf.wn _ h)] at hz
      cases hz
    generalize hvs : ((([V.non, V.int 5, V.str "Zz", V.str "", V.ref l1, V.ref t1, V.ref d, V.bl true, V.ref t2, V.str sx, V.str (n0 ++ " ")] : List V) ++ [V.str ⟨(List.replicate (9 : Int).toNat n0.cps).foldl (· ++ ·) #[]⟩]) ++ (b.things.filter fun x => !decide (x ∈ b.names)).map V.str) = vs at e11
    have hits : ∀ v ∈ vs, Itm b l1 t1 d t2 v := by
      intro v hv
      rw [← hvs] at hv
      simp only [List.mem_append, List.mem_cons, List.not_mem_nil, or_false] at hv
      have st : ∀ z : Str, v = .str z → ShS z → z ∉ b.names → Itm b l1 t1 d t2 v := fun z e h1 h2 => .inr (.inr (.inr (.inr (.inr (.inr (.inr ⟨z, e, h1, h2⟩))))))
      rcases hv with (h | h) | h
      · rcases h with h | h | h | h | h | h | h | h | h | h | h
        · exact .inl h
        · exact .inr (.inl h)
        · exact st _ h ⟨by decide, by decide +kernel⟩ (fx _ (by decide +kernel))
        · exact st _ h ⟨by decide, by decide +kernel⟩ (fx _ (by decide +kernel))
        · exact .inr (.inr (.inr (.inl h)))
        · exact .inr (.inr (.inr (.inr (.inl h))))
        · exact .inr (.inr (.inr (.inr (.inr (.inl h)))))
        · exact .inr (.inr (.inl h))
        · exact .inr (.inr (.inr (.inr (.inr (.inr (.inl h))))))
        · exact st _ h (nmSh nmx) nnx
        · exact st _ h sp.1 sp.2
      · exact st _ h s9'.1 s9'.2
      · obtain ⟨z, hz, rfl⟩ := List.mem_map.mp h
        obtain ⟨z1, z2⟩ := List.mem_filter.mp hz
        exact st z rfl (nmSh (wf.tn z z1)) (by simpa using z2)
    have lvs : vs.length ≤ 17 := by
      rw [← hvs]
      simp only [List.length_append, List.length_cons, List.length_nil, List.length_map]
      omega
    have s2x := s3.trans (s4.trans (s5.trans (s6.trans (s7.trans (s8.trans (s9.trans (s10.trans s11)))))))
    have s3x := s4.trans (s5.trans (s6.trans (s7.trans (s8.trans (s9.trans (s10.trans s11))))))
    have s4x := s5.trans (s6.trans (s7.trans (s8.trans (s9.trans (s10.trans s11)))))
    have s5x := s6.trans (s7.trans (s8.trans (s9.trans (s10.trans s11))))
    have S11 : SS K H H11 l1 t1 d l2 t2 bl n0 vs 0 := ⟨S9.trans (s10.trans s11), ⟨0, Nat.le_refl _, s2x _ _ (s2 _ _ e1)⟩, s2x _ _ e2, .inl (s3x _ _ e3), s4x _ _ e4, s5x _ _ e5, e11, none_old sA nl1, none_old (sA.trans (s1.trans s2)) nd, ne_of_none (s3 _ _ (s2 _ _ e1)) nl2, ne_of_none (s10 _ _ (s9 _ _ (s8 _ _ (s7 _ _ (s6 _ _ (s5 _ _ (s4 _ _ (s3 _ _ (s2 _ _ e1))))))))) nbl, nmSh n0n⟩
    refine ⟨bl, rfl, ⟨_, SqL.of e11⟩, ?_⟩
    refine for_list (K := K) (xs := vs) (fun j σ H' => SS K H H' l1 t1 d l2 t2 bl n0 vs (3 * j) ∧ ∃ c4 c5 c6 c7, σ = [some (.ref t), some (.ref m), some (.ref nl), some (.ref sm), c4, c5, c6, c7]) ⟨S11, _, _, _, _, rfl⟩ (fun j σ H' _ z => SqL.of z.1.eb) (fun j x σ H' hx z => ?_) (fun σ H' z => ?_)
    · have hj : j < 17 := by
        have := (List.getElem?_eq_some_iff.mp hx).1
        omega
      obtain ⟨S, c4, c5, c6, c7, rfl⟩ := z
      have hI := hits x (List.mem_of_getElem? hx)
      refine ⟨3, rfl, by decide, by decide, ?_⟩
      refine for_range (lo := 0) (n := 3) (fun k σ H' => SS K H H' l1 t1 d l2 t2 bl n0 vs (3 * j + k) ∧ ∃ c5 c6 c7, σ = [some (.ref t), some (.ref m), some (.ref nl), some (.ref sm), some x, c5, c6, c7]) ⟨S, _, _, _, rfl⟩ (fun k σ H' hk z => ?_) (fun σ H' z => ?_)
      · obtain ⟨S, c5, c6, c7, rfl⟩ := z
        refine ⟨_, rfl, _, rfl, _, rfl, (0 + (k : Int)), m, b, x, rfl, hM.same S.s, wf.wd, S.bad hI, fun H12 q1 s12 e12 n12 => ?_⟩
        have S12 := S.same s12
        have nq1 : q1 ≠ l1 := by
          obtain ⟨_, _, z⟩ := S.e1
          exact (ne_of_none z n12).symm
        obtain ⟨T, hT, ty, kl, kd⟩ := S12.type hI
        refine ⟨_, rfl, x, .ty "list", .type T, .type "list", _, rfl, .ty _, ty, kit_list hT, _, rfl, ?_⟩
        refine ite2 (fun c => ?_) (fun c => ?_)
        · have hx1 := kl (of_decide_eq_true c)
          obtain ⟨k1, i1, h1x⟩ := S12.e1
          have S18 := S12.app h1x i1
          have e18 : (upd H12 l1 (.lst ((.str "a" :: zs k1) ++ [.int 0]))) q1 = some (.lst [x]) := by rw [upd_ne nq1]; exact e12
          refine ⟨_, rfl, ?_, l1, _, .int 0, hx1, rfl, h1x, ?_, ?_⟩
          · rw [hx1]
            exact .inl ⟨rfl, _, SqL.of h1x⟩
          · simp only [List.length_cons, zs, List.length_replicate]
            exact Nat.lt_of_lt_of_le (by omega : k1 + 1 < 200) (by decide)
          generalize upd H12 l1 (HO.lst ((V.str "a" :: zs k1) ++ [V.int 0])) = H18 at S18 e18 ⊢
          obtain ⟨T2, hT2, ty2, kl2, kd2⟩ := S18.type hI
          refine ⟨_, rfl, x, .ty "dict", .type T2, .type "dict", _, rfl, .ty _, ty2, kit_dict hT2, _, rfl, ?_⟩
          refine ite2 (fun c2 => ?_) (fun c2 => ?_)
          · have xd := kd2 (of_decide_eq_true c2)
            have S19 := S18.put
            have e19 : (upd H18 d (.dK [(.inr "late", .int 0)])) q1 = some (.lst [x]) := by
              rw [upd_ne]
              · exact e18
              · rcases S18.ed with z | z
                · exact ne_of e18 z (by simp)
                · exact ne_of e18 z (by simp)
            rcases S18.ed with ed | ed
            · refine ⟨_, rfl, d, _, xd, DPut.k (k := Sum.inr "late") ed (by decide), ?_⟩
              rw [late0]
              generalize upd H18 d (HO.dK [(Sum.inr "late", V.int 0)]) = H19 at S19 e19 ⊢
              obtain ⟨dv, ok, Dv⟩ := SS.data S19 (by omega) hI
              have Dv2 := Dv
              refine ⟨_, rfl, .ref q1, .list [dv], rfl, .lst (SqL.of (e19)) (.cons Dv .nil), ok.os, ok.od, ok.ol, ?_⟩
              refine ⟨_, rfl, (by show 1 ≤ sizeLine; decide), fun w1 hw1 => ?_⟩
              generalize gw1 : upd _ w1 _ = HW
              obtain ⟨sw, ew, _⟩ := laid gw1 hw1
              refine ⟨.ref w1, .list [dv], rfl, .lst (SqL.of ew) (.cons (Dq.same sw Dv) .nil), ok.os, ok.od, ok.ol, ?_⟩
              refine ⟨rfl, _, rfl, ?_⟩
              refine iteNS rfl ?_
              exact ⟨(S19).same sw, _, _, _, rfl⟩
            · refine ⟨_, rfl, d, _, xd, DPut.k (k := Sum.inr "late") ed (by decide), ?_⟩
              rw [late1]
              generalize upd H18 d (HO.dK [(Sum.inr "late", V.int 0)]) = H19 at S19 e19 ⊢
              obtain ⟨dv, ok, Dv⟩ := SS.data S19 (by omega) hI
              have Dv2 := Dv
              refine ⟨_, rfl, .ref q1, .list [dv], rfl, .lst (SqL.of (e19)) (.cons Dv .nil), ok.os, ok.od, ok.ol, ?_⟩
              refine ⟨_, rfl, (by show 1 ≤ sizeLine; decide), fun w1 hw1 => ?_⟩
              generalize gw1 : upd _ w1 _ = HW
              obtain ⟨sw, ew, _⟩ := laid gw1 hw1
              refine ⟨.ref w1, .list [dv], rfl, .lst (SqL.of ew) (.cons (Dq.same sw Dv) .nil), ok.os, ok.od, ok.ol, ?_⟩
              refine ⟨rfl, _, rfl, ?_⟩
              refine iteNS rfl ?_
              exact ⟨(S19).same sw, _, _, _, rfl⟩
          · skip
            obtain ⟨dv, ok, Dv⟩ := SS.data S18 (by omega) hI
            have Dv2 := Dv
            refine ⟨_, rfl, .ref q1, .list [dv], rfl, .lst (SqL.of (e18)) (.cons Dv .nil), ok.os, ok.od, ok.ol, ?_⟩
            refine ⟨_, rfl, (by show 1 ≤ sizeLine; decide), fun w1 hw1 => ?_⟩
            generalize gw1 : upd _ w1 _ = HW
            obtain ⟨sw, ew, _⟩ := laid gw1 hw1
            refine ⟨.ref w1, .list [dv], rfl, .lst (SqL.of ew) (.cons (Dq.same sw Dv) .nil), ok.os, ok.od, ok.ol, ?_⟩
            refine ⟨rfl, _, rfl, ?_⟩
            refine iteNS rfl ?_
            exact ⟨(S18).same sw, _, _, _, rfl⟩
        · have S18 : SS K H H12 l1 t1 d l2 t2 bl n0 vs (3 * j + k + 1) := ⟨S12.s, (by obtain ⟨k1, i1, z⟩ := S12.e1; exact ⟨k1, by omega, z⟩), S12.et1, S12.ed, S12.e2, S12.et2, S12.eb, S12.n1, S12.nd, S12.n12, S12.n1b, S12.sh⟩
          have e18 := e12
          refine ⟨_, rfl, x, .ty "dict", .type T, .type "dict", _, rfl, .ty _, ty, kit_dict hT, _, rfl, ?_⟩
          refine ite2 (fun c2 => ?_) (fun c2 => ?_)
          · have xd := kd (of_decide_eq_true c2)
            have S19 := S18.put
            have e19 : (upd H12 d (.dK [(.inr "late", .int 0)])) q1 = some (.lst [x]) := by
              rw [upd_ne]
              · exact e18
              · rcases S18.ed with z | z
                · exact ne_of e18 z (by simp)
                · exact ne_of e18 z (by simp)
            rcases S18.ed with ed | ed
            · refine ⟨_, rfl, d, _, xd, DPut.k (k := Sum.inr "late") ed (by decide), ?_⟩
              rw [late0]
              generalize upd H12 d (HO.dK [(Sum.inr "late", V.int 0)]) = H19 at S19 e19 ⊢
              obtain ⟨dv, ok, Dv⟩ := SS.data S19 (by omega) hI
              have Dv2 := Dv
              refine ⟨_, rfl, .ref q1, .list [dv], rfl, .lst (SqL.of (e19)) (.cons Dv .nil), ok.os, ok.od, ok.ol, ?_⟩
              refine ⟨_, rfl, (by show 1 ≤ sizeLine; decide), fun w1 hw1 => ?_⟩
              generalize gw1 : upd _ w1 _ = HW
              obtain ⟨sw, ew, _⟩ := laid gw1 hw1
              refine ⟨.ref w1, .list [dv], rfl, .lst (SqL.of ew) (.cons (Dq.same sw Dv) .nil), ok.os, ok.od, ok.ol, ?_⟩
              refine ⟨rfl, _, rfl, ?_⟩
              refine iteNS rfl ?_
              exact ⟨(S19).same sw, _, _, _, rfl⟩
            · refine ⟨_, rfl, d, _, xd, DPut.k (k := Sum.inr "late") ed (by decide), ?_⟩
              rw [late1]
              generalize upd H12 d (HO.dK [(Sum.inr "late", V.int 0)]) = H19 at S19 e19 ⊢
              obtain ⟨dv, ok, Dv⟩ := SS.data S19 (by omega) hI
              have Dv2 := Dv
              refine ⟨_, rfl, .ref q1, .list [dv], rfl, .lst (SqL.of (e19)) (.cons Dv .nil), ok.os, ok.od, ok.ol, ?_⟩
              refine ⟨_, rfl, (by show 1 ≤ sizeLine; decide), fun w1 hw1 => ?_⟩
              generalize gw1 : upd _ w1 _ = HW
              obtain ⟨sw, ew, _⟩ := laid gw1 hw1
              refine ⟨.ref w1, .list [dv], rfl, .lst (SqL.of ew) (.cons (Dq.same sw Dv) .nil), ok.os, ok.od, ok.ol, ?_⟩
              refine ⟨rfl, _, rfl, ?_⟩
              refine iteNS rfl ?_
              exact ⟨(S19).same sw, _, _, _, rfl⟩
          · skip
            obtain ⟨dv, ok, Dv⟩ := SS.data S18 (by omega) hI
            have Dv2 := Dv
            refine ⟨_, rfl, .ref q1, .list [dv], rfl, .lst (SqL.of (e18)) (.cons Dv .nil), ok.os, ok.od, ok.ol, ?_⟩
            refine ⟨_, rfl, (by show 1 ≤ sizeLine; decide), fun w1 hw1 => ?_⟩
            generalize gw1 : upd _ w1 _ = HW
            obtain ⟨sw, ew, _⟩ := laid gw1 hw1
            refine ⟨.ref w1, .list [dv], rfl, .lst (SqL.of ew) (.cons (Dq.same sw Dv) .nil), ok.os, ok.od, ok.ol, ?_⟩
            refine ⟨rfl, _, rfl, ?_⟩
            refine iteNS rfl ?_
            exact ⟨(S18).same sw, _, _, _, rfl⟩
      · obtain ⟨S, c5, c6, c7, rfl⟩ := z
        exact ⟨S, _, _, _, _, rfl⟩
    · obtain ⟨S, c4, c5, c6, c7, rfl⟩ := z
      exact q _ S.s

end
end K02

namespace K02
open PySem PySem.Spec PyProof.Rows L2 Gx
section
variable {P : Program} {w : World} {K : PySem.W.Frag} {mg : Str → Option Value} {base : Heap}

section
variable {X : Cx} {CX : CXT} {n : Nat} {C : Addr} {sp : Sp} {E : XK}
theorem op_eqM (c : CaM X.prog X.w X.K X.mg X.base CX n C "__eq__" sp) (hx : Passes CX X E) (hr : Room n X.A) : OpR X (compareOp .Eq) (rOwn X.K C sp E false) := by
  obtain ⟨f, fd, ps, F, hb, hm, cl⟩ := c.ex
  exact op_eqO F hm.at_ hm.fn hb hx hr
theorem op_eqMK {P : Program} {w : World} {K : PySem.W.Frag} {mg : Str → Option Value} {base : Heap} (c : CaM P w K mg base CX n C "__eq__" sp) (e : X.prog = P ∧ X.w = w ∧ X.K = K ∧ X.mg = mg ∧ X.base = base) (hx : Passes CX X E) (hr : Room n X.A) : OpR X (compareOp .Eq) (rOwn K C sp E false) := by
  obtain ⟨rfl, rfl, rfl, rfl, rfl⟩ := e
  exact op_eqM c hx hr
theorem op_neM (c : CaM X.prog X.w X.K X.mg X.base CX n C "__eq__" sp) (ho : PySem.W.subIn X.K (.ref C) (.type "object") = some true)
    (hd : PySem.W.findIn X.K (.ref C) "__ne__" = some (some (.builtin "object.__ne__"))) (hx : Passes CX X E) (hr : Room (n + 1) X.A) (hu : X.A.units + 1 < cLine) : OpR X (compareOp .NotEq) (rOwn X.K C sp E true) := by
  obtain ⟨f, fd, ps, F, hb, hm, cl⟩ := c.ex
  exact op_neO F hm.at_ hm.fn ho hd hb hx hr hu
end
theorem ScrAt.kp {H H' : Hp} {p a : Addr} {ns : List Int} (h : ScrAt K H a ns) (k : Kp p H H') (s : SrcAt H p) : ScrAt K H' a ns := h.mono fun b o u e => k _ _ (fun z => by
  obtain ⟨x, y, q, _⟩ := s
  rw [z, q] at e
  cases e) e
theorem ScrAt.sm {H H' : Hp} {a : Addr} {ns : List Int} (h : ScrAt K H a ns) (k : Same H H') : ScrAt K H' a ns := h.mono fun b o u e => k _ _ e
theorem SrcAt.of {H : Hp} {p : Addr} {o : HO} (h : SrcO o) (e : H p = some o) : SrcAt H p := by
  obtain ⟨x, y, rfl, r⟩ := h
  exact ⟨x, y, e, r⟩
theorem ifF {c : Bool} {A B : Prop} (h : c = false) (x : B) : if c = true then A else B := by
  rw [if_neg (by rw [h]; decide)]
  exact x
theorem passN {X : Cx} : Passes (L2.CX X.prog X.w) X (fun _ _ _ => False) := fun _ _ _ _ _ _ _ h => by
  obtain ⟨_, _, _, _, _, _, _, _, _, _, _, _, h⟩ := h
  exact h.elim
theorem IsM.lst {H H' : Hp} {m p : Addr} {ys : List V} {b : Bs} (h : IsM K H m b) (k : Kp p H H') (e : H p = some (.lst ys)) : IsM K H' m b := by
  obtain ⟨dx, t1, t2, d1, d2, d3, k1, k3, h1, h0, h2, h3, h4, h5, h6, h7, h8⟩ := h
  have f : ∀ {a o}, H a = some o → (∀ xs, o ≠ .lst xs) → H' a = some o := fun {a o} q n => k _ _ (fun z => by rw [z, e] at q; cases q; exact n _ rfl) q
  exact ⟨dx, t1, t2, d1, d2, d3, k1, k3, f h1 (by intros; simp), f h0 (by intros; simp), SqT.lstK h2 k e, SqT.lstK h3 k e, f h4 (by intros; simp), Paired.imp2 (fun _ _ ⟨q, a, r, z⟩ => ⟨q, a, r, SqT.lstK z k e⟩) h5, f h6 (by intros; simp), f h7 (by intros; simp),
    Paired.imp2 (fun _ _ ⟨q, a, r, z⟩ => ⟨q, a, r, SqT.lstK z k e⟩) h8⟩
theorem IsM.src {H H' : Hp} {m p : Addr} {b : Bs} (h : IsM K H m b) (k : Kp p H H') (s : SrcAt H p) : IsM K H' m b := by
  obtain ⟨x, y, e, _⟩ := s
  exact IsM.lst h k e
theorem own_mm (F : Facts K mg) {H : Hp} {m m2 : Addr} {b c : Bs} {neg : Bool} {E : XK} {Q : VK} (h1 : IsM K H m b) (h2 : IsM K H m2 c) (wf : WF b) (wg : WF c) (q : Q (.bl (neg != decide (b = c))) H) : rOwn K (He.ga K "Menu") (spEqM K) E neg (.ref m) (.ref m2) H Q := by
  have h1' := h1
  have h2' := h2
  obtain ⟨dx, t1, t2, d1, d2, d3, k1, k3, hm, _⟩ := h1
  obtain ⟨ex, u1, u2, e1, e2, e3, j1, j3, gm, _⟩ := h2
  exact ⟨m, dx, _, _, rfl, hm, (menuI F).ty (cls_Menu F) gm, (menuI F).first, m, _, b, rfl, h1', .inl ⟨m2, c, rfl, h2', wf, wg, _, rfl, q⟩⟩
theorem own_mx (F : Facts K mg) {H : Hp} {m : Addr} {y : V} {b : Bs} {neg : Bool} {E : XK} {Q : VK} {T : String} (h1 : IsM K H m b) (ty : TyX K H y (.type T)) (hT : T ∈ ["NoneType", "bool", "int", "str", "list", "tuple", "dict"]) (q : Q (.bl (neg != false)) H) : rOwn K (He.ga K "Menu") (spEqM K) E neg (.ref m) y H Q := by
  have h1' := h1
  obtain ⟨dx, t1, t2, d1, d2, d3, k1, k3, hm, _⟩ := h1
  exact ⟨m, dx, _, _, rfl, hm, ty, (menuTy F hT).2, m, _, b, rfl, h1', .inr ⟨⟨T, ty, hT⟩, _, rfl, q⟩⟩
theorem shape3 {xs ys : List Str} {k : Str} (h1 : ∀ x ∈ xs, okS x) (h2 : okS k) (h3 : ∀ x ∈ ys, okS x) : SeqAt.shaped (.list [.list (xs.map .str), .str k, .list (ys.map .str)]) = true := by
  unfold SeqAt.shaped
  rw [Bool.and_eq_true]
  refine ⟨?_, decide_eq_true ?_⟩
  · simp only [PyData.canLay0, PyData.canLayAll0, Bool.and_eq_true]
    exact ⟨lay_str h1, h2, lay_str h3, trivial⟩
  · simp only [PyData.depth, PyData.depthAll, depth_str]
    omega
def spLaw (K : PySem.W.Frag) : Sp := fun vs H Q _ => ∃ (a : Addr) (ns : List Int), vs = [.ref a] ∧ ScrAt K H a ns ∧ ns.length ≤ 63 ∧ (∀ z ∈ ns, Builtin.Int.intBits z ≤ 1048576) ∧ ∀ H', Q (.bl true) H'
theorem fn_law (F : Facts K mg) {fd : FuncData} (D : FunD K "law" "law" (defArgs s_law) (defBody s_law) (defScope s_law) [] [] (He.ga K "law") fd) : FnG P w K mg base CX0 9 (He.ga K "law") fd ["script"] (spLaw K) := by
  refine FnG.body D sc_law (fun vs H Q E h => ?_) (fun cdv A outer s H vs Q E hg hr h => ?_)
  · obtain ⟨_, _, rfl, _⟩ := h
    rfl
  · have hu := hu_of hr
    skip
    refine ⟨_, PSs.nox (pss_cons (ps_for PassesOwn.never rfl (pi_range1 rfl (z_range F) (pa_cons (pe_callB (call_max2 rfl) (by rfl) (z_max F) (by decide +kernel) (pa_cons pe_int (pa_cons (pe_callB (call_min2 rfl) (by rfl) (z_min F) (by decide +kernel) (pa_cons pe_int (pa_cons (pe_callB call_len (by rfl) (z_len F) boot_len (pa_cons (pv 0) pa_nil)) pa_nil))) pa_nil))) pa_nil)) (pg_name (i := 1) sc_law.nd rfl (Or.inl rfl))
      (pss_cons (ps_set (i := 2) sc_law.nd rfl (Or.inl rfl) (pe_ca (ca_law_source F) (hr.mono (by decide)) rfl pass0 (pa_cons (pv 0) (pa_cons (pv 1) pa_nil))))
    (pss_one (ps_for PassesOwn.never rfl (pi_range1 rfl (z_range F) (pa_cons pe_int pa_nil)) (pg_name (i := 3) sc_law.nd rfl (Or.inl rfl))
      (pss_cons (ps_set (i := 4) sc_law.nd rfl (Or.inl rfl) (pe_ca (ca_law_base F) (hr.mono (by decide)) rfl pass0 (pa_cons (pv 2) (pa_cons pe_int pa_nil))))
    (pss_cons (ps_set (i := 5) sc_law.nd rfl (Or.inr rfl) (pe_ca (ca_law_made F) (hr.mono (by decide)) rfl pass0 (pa_cons (pv 4) pa_nil)))
    (pss_cons (ps_set (i := 6) sc_law.nd rfl (Or.inl rfl) (pe_ca (ca_law_tuples F) (hr.mono (by decide)) rfl pass0 (pa_cons (pv 4) pa_nil)))
    (pss_cons (ps_if (PW.pt (pw_or (pt_not (pt_cmpR (op_eqM (cm_Menu_eq F) pass0 (hr.mono (by decide))) (pv 5) (pe_ca (ca_law_made F) (hr.mono (by decide)) rfl pass0 (pa_cons (pv 4) pa_nil)) (nomark _))) (pw_or (pt_cmpR (op_neM (cm_Menu_eq F) (menuI F).obj (menuI F).ne pass0 (hr.mono (by decide)) hu) (pv 5) (pe_ca (ca_law_made F) (hr.mono (by decide)) rfl pass0 (pa_cons (pv 4) pa_nil)) (nomark _)) (pw_or (pt_cmpR (op_neM (cm_Menu_eq F) (menuI F).obj (menuI F).ne pass0 (hr.mono (by decide)) hu) (pv 5) (pv 6) (nomark _)) (pw_or1 (pt_cmpR (op_neM (cm_Menu_eq F) (menuI F).obj (menuI F).ne pass0 (hr.mono (by decide)) hu) (pv 6) (pv 5) (nomark _))))))) (pss_one (ps_ret pe_bl)) pss_nil)
    (pss_cons (ps_for PassesOwn.never rfl (pi_tup (pe_ix (ix_tupK (K := K) rfl) (pv 4) pe_int (fun _ _ => rfl))) (pg_tup rfl (pgs_cons (pg_name (i := 8) sc_law.nd rfl (Or.inl rfl)) (pgs_cons (pg_name (i := 9) sc_law.nd rfl (Or.inl rfl)) (pgs_cons (pg_name (i := 10) sc_law.nd rfl (Or.inl rfl)) (pgs_cons (pg_name (i := 11) sc_law.nd rfl (Or.inl rfl)) pgs_nil)))))
      (pss_one (ps_if (pt_cmpR (op_neD hr.units) (pe_lst (pa_cons (pe_cm (cm_Menu_wishes F) (hr.mono (by decide)) passN (pv 6) (pa_cons (pv 8) pa_nil)) (pa_cons (pe_cm (cm_Menu_back F) (hr.mono (by decide)) passN (pv 6) (pa_cons (pv 8) pa_nil)) (pa_cons (pe_cm (cm_Menu_later F) (hr.mono (by decide)) passN (pv 6) (pa_cons (pv 8) pa_nil)) pa_nil)))) (pe_lst (pa_cons (pe_callTy call_list_of (by rfl) (z_list F) (by decide +kernel) (pa_cons (pv 9) pa_nil)) (pa_cons (pv 10) (pa_cons (pe_callTy call_list_of (by rfl) (z_list F) (by decide +kernel) (pa_cons (pv 11) pa_nil)) pa_nil)))) (nomark _)) (pss_one (ps_ret pe_bl)) pss_nil)))
    (pss_cons (ps_for PassesOwn.never rfl (pi_list (pe_ca (ca_law_near F) (hr.mono (by decide)) rfl pass0 (pa_cons (pv 2) (pa_cons (pv 4) pa_nil)))) (pg_name (i := 7) sc_law.nd rfl (Or.inl rfl))
      (pss_one (ps_if (pt_cmpR op_ne (pe_cmpR (op_eqM (cm_Menu_eq F) pass0 (hr.mono (by decide))) (pv 5) (pe_ca (ca_law_made F) (hr.mono (by decide)) rfl pass0 (pa_cons (pv 7) pa_nil)) (nomark _)) (pe_ca (ca_law_same F) (hr.mono (by decide)) rfl pass0 (pa_cons (pv 4) (pa_cons (pv 7) pa_nil))) (nomark _)) (pss_one (ps_ret pe_bl)) pss_nil)))
    (pss_cons (ps_if (pt_cmpR (op_neD hr.units) (pe_lc (own := [("thing", 12)]) (g := gName 12) rfl sc_law.nd (pi_list (pe_lst (pa_cons pe_non (pa_cons (pv 4) (pa_cons (pe_ix (ix_tupK (K := K) rfl) (pv 4) pe_int (fun _ _ => rfl)) (pa_cons pe_str (pa_cons pe_int (pa_cons pe_dnewK pa_nil)))))))) (blkOk_by (own := [("thing", 12)]) (N := ["script", "start", "source", "turn", "base", "menu", "same", "other", "name", "wishes", "back", "later", "thing"]) (sc := defScope s_law) (by decide +kernel)) (fun _ _ _ _ _ => (pg_name (i := 12) sc_law.nd rfl (Or.inl rfl))) (fun _ _ _ _ _ => (pts_one (pt_cmpR (op_eqMK (cm_Menu_eq F) ⟨rfl, rfl, rfl, rfl, rfl⟩ pass0 (hr.mono (by decide))) (pv 5) (pv 12) (nomark _)))) (fun _ _ _ _ _ => (pv 12))) (pe_lst pa_nil) (nomark _)) (pss_one (ps_ret pe_bl)) pss_nil)
    (pss_one (ps_if (PW.pt (pw_or (pt_not (pt_val (pe_cg (ca_law_strangers_right F) hg (hr.mono (by decide)) rfl pass0 (pa_cons (pv 4) (pa_cons (pv 5) pa_nil))))) (pw_or1 (pt_not (pt_cmpR (op_eqM (cm_Menu_eq F) pass0 (hr.mono (by decide))) (pv 5) (pe_ca (ca_law_made F) (hr.mono (by decide)) rfl pass0 (pa_cons (pv 4) pa_nil)) (nomark _)))))) (pss_one (ps_ret pe_bl)) pss_nil)))))))))))))
    (pss_one (ps_ret pe_bl))), ?_⟩
    obtain ⟨a, ns, rfl, hS, hl, hb, q⟩ := h
    refine ⟨_, rfl, _, _, rfl, .inl ⟨_, hS.sq, rfl⟩, _, _, rfl, _, _, rfl, _, rfl, ?_, ?_, ?_⟩
    · repeat' split
      all_goals omega
    · repeat' split
      all_goals omega
    refine for_range (lo := 0) (fun i σ H' => ScrAt K H' a ns ∧ ∃ c1 c2 c3 c4 c5 c6 c7 c8 c9 c10 c11 c12 : Option V, σ = [some (.ref a), c1, c2, c3, c4, c5, c6, c7, c8, c9, c10, c11, c12]) ⟨hS, _, _, _, _, _, _, _, _, _, _, _, _, rfl⟩ (fun i σ H' hi z => ?_) (fun σ H' z => q H')
    obtain ⟨hS', c1, c2, c3, c4, c5, c6, c7, c8, c9, c10, c11, c12, rfl⟩ := z
    have hi4 : i < 5 := by
      revert hi
      repeat' split
      all_goals omega
    refine ⟨_, rfl, _, rfl, a, ns, _, rfl, hS'.sq, hl, hb, by omega, by omega, fun p o hp ho => ?_⟩
    generalize g1 : upd _ p _ = H1
    obtain ⟨s1, e1, _⟩ := laid g1 hp
    have r1 : SrcAt H1 p := SrcAt.of ho e1
    have S1 := ScrAt.sm hS' s1
    refine ⟨5, rfl, by decide, by decide, ?_⟩
    refine for_range (lo := 0) (n := 5) (fun j σ H' => ScrAt K H' a ns ∧ SrcAt H' p ∧ ∃ c3 c4 c5 c6 c7 c8 c9 c10 c11 c12 : Option V, σ = [some (.ref a), some (.int (0 + (i : Int))), some (.ref p), c3, c4, c5, c6, c7, c8, c9, c10, c11, c12]) ⟨S1, r1, _, _, _, _, _, _, _, _, _, _, rfl⟩ (fun j σ H2 hj z => ?_) (fun σ H2 z => ?_)
    · obtain ⟨S2, r2, c3, c4, c5, c6, c7, c8, c9, c10, c11, c12, rfl⟩ := z
      refine ⟨_, rfl, p, 5, rfl, r2, by decide, by decide, fun H3 t b k3 r3 hB wf => ?_⟩
      have S3 := ScrAt.kp S2 k3 r2
      clear k3 r2 S2
      refine ⟨_, rfl, t, b, rfl, hB, wf, fun H4 m k4 hM nm => ?_⟩
      refine ⟨_, rfl, t, b, rfl, hB.same k4, wf, fun H5 ms k5 hS5 ns5 => ?_⟩
      have S5 := ScrAt.sm S3 (k4.trans k5)
      have r5 := r3.same (k4.trans k5)
      have B5 := hB.same (k4.trans k5)
      have M5 := hM.same k5
      clear S3 r3 hB hM k4 k5 nm ns5
      refine ⟨_, rfl, _, rfl, t, b, rfl, B5, wf, fun H6 m6 k6 hM6 n6 => own_mm F (M5.same k6) hM6 wf wf ⟨_, rfl, ifF (by simp) ?_⟩⟩
      refine ⟨_, rfl, _, rfl, t, b, rfl, B5.same k6, wf, fun H7 m7 k7 hM7 n7 => own_mm F (M5.same (k6.trans k7)) hM7 wf wf ⟨_, rfl, ifF (by simp) ?_⟩⟩
      have k57 := k6.trans k7
      have S7 := ScrAt.sm S5 k57
      have r7 := r5.same k57
      have B7 := B5.same k57
      have M7 := M5.same k57
      have Ms7 := hS5.same k57
      clear S5 r5 B5 M5 hS5 hM6 hM7 k6 k7 k57 n6 n7
      refine ⟨_, rfl, _, rfl, own_mm F M7 Ms7 wf wf ⟨_, rfl, ifF (by simp) ?_⟩⟩
      refine ⟨_, rfl, _, rfl, own_mm F Ms7 M7 wf wf ⟨_, rfl, ifF (by simp) ?_⟩⟩
      have B7' := B7
      obtain ⟨th, wt, es, h1, h2, h3, h4⟩ := B7
      refine ⟨_, rfl, t, _, 1, _, rfl, rfl, h1, rfl, wt, rfl, ⟨_, h3⟩, ?_⟩
      refine for_tup (K := K) (xs := es) (fun k σ H' => Same H7 H' ∧ ∃ c7 c8 c9 c10 c11 c12 : Option V, σ = [some (.ref a), some (.int (0 + (i : Int))), some (.ref p), some (.int (0 + (j : Int))), some (.ref t), some (.ref m), some (.ref ms), c7, c8, c9, c10, c11, c12]) ⟨Same.refl _, _, _, _, _, _, _, rfl⟩ (fun k σ H' _ z => SqT.same h3 z.1) (fun k x σ H' hx z => ?_) (fun σ H8 z => ?_)
      · obtain ⟨kk, c7, c8, c9, c10, c11, c12, rfl⟩ := z
        obtain ⟨e, he, ea, w, l, rfl, f1, f2, f3⟩ := Paired.at2 h4 hx
        have hem : e ∈ b.ws := List.mem_of_getElem? he
        have okw := wf.okW hem
        refine ⟨ea, _, rfl, SqT.same f1 kk, rfl, _, _, rfl, _, _, rfl, _, _, rfl, _, _, rfl, rfl, ?_⟩
        have Ms8 := Ms7.same kk
        have Ms8' := Ms8
        obtain ⟨dx, _, _, _, _, _, _, _, hms, _⟩ := Ms8
        refine ⟨_, rfl, ms, dx, _, rfl, hms, rfl, _, rfl, ms, b, _, rfl, Ms8', wf.wd, .inl ⟨e, hem, rfl, fun x1 nx1 => ?_⟩⟩
        generalize g1 : upd _ x1 _ = J1
        obtain ⟨j1, q1, _⟩ := laid g1 nx1
        refine ⟨_, rfl, ms, dx, _, rfl, j1 _ _ hms, rfl, _, rfl, ms, b, _, rfl, Ms8'.same j1, wf.wd, .inl ⟨e, hem, rfl, ?_⟩⟩
        refine ⟨_, rfl, ms, dx, _, rfl, j1 _ _ hms, rfl, _, rfl, ms, b, _, rfl, Ms8'.same j1, wf.wd, .inl ⟨e, hem, rfl, fun x2 nx2 => ?_⟩⟩
        generalize g2 : upd _ x2 _ = J2
        obtain ⟨j2, q2, _⟩ := laid g2 nx2
        refine ⟨(by show 3 ≤ sizeLine; decide), fun x3 nx3 => ?_⟩
        generalize g3 : upd _ x3 _ = J3
        obtain ⟨j3, q3, _⟩ := laid g3 nx3
        have jj := j1.trans (j2.trans j3)
        refine ⟨_, rfl, w, _, rfl, .inr (SqT.same f2 (kk.trans jj)), fun x4 nx4 => ?_⟩
        generalize g4 : upd _ x4 _ = J4
        obtain ⟨j4, q4, _⟩ := laid g4 nx4
        refine ⟨_, rfl, _, rfl, l, _, rfl, .inr (SqT.same f3 (kk.trans (jj.trans j4))), fun x5 nx5 => ?_⟩
        generalize g5 : upd _ x5 _ = J5
        obtain ⟨j5, q5, _⟩ := laid g5 nx5
        refine ⟨(by show 3 ≤ sizeLine; decide), fun x6 nx6 => ?_⟩
        generalize g6 : upd _ x6 _ = J6
        obtain ⟨j6, q6, _⟩ := laid g6 nx6
        have jz := j4.trans (j5.trans j6)
        have sh := shape3 (xs := e.wishes) (ys := e.later) (k := e.back) okw.1 okw.2.1 okw.2.2
        refine ⟨.list [.list (e.wishes.map .str), .str e.back, .list (e.later.map .str)], .list [.list (e.wishes.map .str), .str e.back, .list (e.later.map .str)],
          .lst (SqL.of (jz _ _ q3)) (.cons (.lst (SqL.of (jz _ _ (j3 _ _ (j2 _ _ q1)))) (dp_strs _)) (.cons (.str _) (.cons (.lst (SqL.of (jz _ _ (j3 _ _ q2))) (dp_strs _)) .nil))),
          .lst (SqL.of q6) (.cons (.lst (SqL.of (j6 _ _ (j5 _ _ q4))) (dp_strs _)) (.cons (.str _) (.cons (.lst (SqL.of (j6 _ _ q5)) (dp_strs _)) .nil))), sh, sh, _, rfl, ?_⟩
        rw [SeqAt.eqv_refl _ (SeqAt.canLay_of_shaped sh)]
        refine ifF rfl ?_
        exact ⟨kk.trans (jj.trans jz), _, _, _, _, _, _, rfl⟩
      obtain ⟨k8, c7, c8, c9, c10, c11, c12, rfl⟩ := z
      have S8 := ScrAt.sm S7 k8
      have r8 := r7.same k8
      have B8 := B7'.same k8
      have M8 := M7.same k8
      clear S7 r7 B7' M7 Ms7 h1 h2 h3 h4 k8
      refine ⟨_, rfl, _, rfl, p, t, b, rfl, r8, B8, wf, fun H9 nq bs k9 r9 e9 all9 l9 n9 => ?_⟩
      have S9 := ScrAt.kp S8 k9 r8
      have B9 := B8.src k9 r8
      have M9 := IsM.src M8 k9 r8
      clear S8 B8 M8 k9 r8
      refine ⟨nq, rfl, ⟨_, SqL.of e9⟩, ?_⟩
      refine for_list (K := K) (xs := bs) (fun k σ H' => Same H9 H' ∧ ∃ c7 c8 c9 c10 c11 c12 : Option V, σ = [some (.ref a), some (.int (0 + (i : Int))), some (.ref p), some (.int (0 + (j : Int))), some (.ref t), some (.ref m), some (.ref ms), c7, c8, c9, c10, c11, c12]) ⟨Same.refl _, _, _, _, _, _, _, rfl⟩ (fun k σ H' _ z => SqL.of (z.1 _ _ e9)) (fun k x σ H' hx z => ?_) (fun σ H10 z => ?_)
      · obtain ⟨kk, c7, c8, c9, c10, c11, c12, rfl⟩ := z
        obtain ⟨u, c, rfl, Bc, wc⟩ := all9 x (List.mem_of_getElem? hx)
        refine ⟨_, rfl, _, rfl, u, c, rfl, Bc.same kk, wc, fun G1 mg1 kg Mg ng => own_mm F (M9.same (kk.trans kg)) Mg wf wc ?_⟩
        refine ⟨_, rfl, _, rfl, t, u, b, c, rfl, B9.same (kk.trans kg), Bc.same (kk.trans kg), wf, wc, ?_⟩
        refine ⟨rfl, _, rfl, ?_⟩
        refine ifF (by simp) ?_
        exact ⟨kk.trans kg, _, _, _, _, _, _, rfl⟩
      obtain ⟨k10, c7, c8, c9, c10, c11, c12, rfl⟩ := z
      have S10 := ScrAt.sm S9 k10
      have r10 := r9.same k10
      have B10 := B9.same k10
      have M10 := M9.same k10
      clear S9 r9 B9 M9 k10 all9 e9
      have B10' := B10
      obtain ⟨th, wt, es, h1, h2, h3, h4⟩ := B10
      refine ⟨_, rfl, _, rfl, t, _, 0, _, rfl, rfl, h1, rfl, ?_⟩
      intro d nd
      generalize g1 : upd _ d _ = G1
      obtain ⟨j1, q1, _⟩ := laid g1 nd
      refine ⟨(by show 6 ≤ sizeLine; decide), fun tl ntl => ?_⟩
      generalize g2 : upd _ tl _ = G2
      obtain ⟨j2, q2, _⟩ := laid g2 ntl
      refine ⟨tl, rfl, ⟨_, SqL.of q2⟩, fun D hD => lc_it walk_list (fun k H' => Same G2 H' ∧ H' D = some (.lst [])) ⟨Same.new hD, upd_same⟩ (fun k H' _ z => SqL.of (z.1 _ _ q2)) (fun k x HX HY hk z y => ?_) (fun G3 z => ?_)⟩
      · obtain ⟨rfl, hx⟩ := y
        obtain ⟨y1, y2⟩ := z
        have jA := j1.trans (j2.trans y1)
        have hT : ∃ T, TyX K HY x (.type T) ∧ T ∈ ["NoneType", "bool", "int", "str", "list", "tuple", "dict"] := by
          have hm := List.mem_of_getElem? hx
          simp only [List.mem_cons, List.not_mem_nil, or_false] at hm
          rcases hm with rfl | rfl | rfl | rfl | rfl | rfl
          · exact ⟨_, .base .non, by simp⟩
          · exact ⟨_, tyx_tup (SqT.same h1 jA), by simp⟩
          · exact ⟨_, tyx_tup (SqT.same h2 jA), by simp⟩
          · exact ⟨_, .base (.str _), by simp⟩
          · exact ⟨_, .base (.int _), by simp⟩
          · exact ⟨_, .base (.dK (y1 _ _ (j2 _ _ q1))), by simp⟩
        obtain ⟨T, ty, hT⟩ := hT
        refine ⟨rfl, ?_⟩
        refine ⟨_, rfl, _, rfl, own_mx F (M10.same jA) ty hT ⟨_, rfl, ?_⟩⟩
        refine ifF (by simp) ?_
        exact ⟨y1, y2⟩
      obtain ⟨y1, y2⟩ := z
      refine ⟨(by show 0 ≤ sizeLine; decide), fun el nel => ?_⟩
      generalize g4 : upd _ el _ = G4
      obtain ⟨j4, q4, _⟩ := laid g4 nel
      refine ⟨.list [], .list [], .lst (SqL.of (j4 _ _ y2)) .nil, .lst (SqL.of q4) .nil, by decide +kernel, by decide +kernel, _, rfl, ?_⟩
      rw [show (!PyData.eqv (.list []) (.list [])) = false from by decide +kernel]
      refine ifF rfl ?_
      have j := j1.trans (j2.trans (y1.trans j4))
      have S11 := ScrAt.sm S10 j
      have r11 := r10.same j
      have B11 := B10'.same j
      have M11 := M10.same j
      refine ⟨_, rfl, _, rfl, t, m, b, rfl, B11, M11, wf, fun G5 k5 => ⟨_, rfl, ifF (by simp) ?_⟩⟩
      refine ⟨_, rfl, _, rfl, t, b, rfl, B11.same k5, wf, fun G6 m6 k6 hM6 n6 => own_mm F (M11.same (k5.trans k6)) hM6 wf wf ⟨_, rfl, ifF (by simp) ?_⟩⟩
      exact ⟨ScrAt.sm S11 (k5.trans k6), r11.same (k5.trans k6), _, _, _, _, _, _, _, _, _, _, rfl⟩
    · obtain ⟨S2, r2, c3, c4, c5, c6, c7, c8, c9, c10, c11, c12, rfl⟩ := z
      exact ⟨S2, _, _, _, _, _, _, _, _, _, _, _, _, rfl⟩

end
end K02

namespace K02
open PySem PySem.Spec PyProof.Rows L2 Gx
abbrev R : PySem.W.OpenRow := PySem.W.OpenLaw.row PySem.Challenge.rw_dugdays_k02_menus_compared
abbrev hk : PySem.W.Hook := hookY 6 fa fn ex
def ob (s : PySem.W.SharedT) : He.AlD × Bool := obY 6 fa fn ex (HandSHeadRun.getT s)
theorem ob_eq (s : PySem.W.SharedT) : ob s = hk.obs s.abs := obY_eq (HandSHeadRun.getT_eq s)
def loose : List Str := (["DigError", "BadThings", "BadWeathers", "BadWeather", "LETTERS", "MOST_LETTERS", "MOST_THINGS", "MOST_WEATHERS", "WAYS_BACK", "is_name", "are_different", "are_names", "are_things", "is_row_of", "is_weather_entry", "are_weathers", "Menu", "_law_source", "_law_draw", "_law_pick"] : List Str) ++ (["_law_mixed", "_law_word", "_law_names", "_law_some", "_law_base", "_law_made", "_law_stranger", "_law_tuples", "_law_near", "_law_same", "_law_refused", "_law_strangers_right", "__name__"] : List Str)
set_option maxHeartbeats 0 in
theorem run (w : World) : HandSHeadRun.RunEq R (PySem.W.view R.prog [35]) hk ob 20000 loose w := by
  intro os
  kernel_rfl
end K02
open PySem PySem.W PySem.Calls PyProof.Rows
set_option maxRecDepth 100000 in
set_option maxHeartbeats 0 in
theorem PySem.Challenge.cw_dugdays_k02_menus_compared_holds : PySem.Challenge.rw_dugdays_k02_menus_compared.Holds := by
  w_on; o_law
  refine HandSHeadRun.head_any (r := OpenLaw.row PySem.Challenge.rw_dugdays_k02_menus_compared) (q := view (OpenLaw.row PySem.Challenge.rw_dugdays_k02_menus_compared).prog [35]) (H := K02.hk) (ob := K02.ob) (M := 20000) (loose := K02.loose)
    (d := HandSHeadRun.topDef (OpenLaw.row PySem.Challenge.rw_dugdays_k02_menus_compared).prog 35) (kwd := []) K02.ob_eq (by kernel_rfl) (fun s => by kernel_rfl) K02.run (by kernel_rfl) (by kernel_rfl) (by kernel_rfl) (by rfl) (by first | assumption | decide +kernel) (by decide +kernel) ⟨rfl, rfl, rfl, rfl, rfl, by decide +kernel⟩ ?hw ?hc
  case hw => w_witness2
  case hc =>
    refine Gx.walk_G (l := PySem.Challenge.rw_dugdays_k02_menus_compared) (k := 9) (x := "script") (CX := fun _ => L2.CX0) rfl (by kernel_rfl) ⟨rfl, by decide, by decide⟩ ?F (fun _ _ _ _ _ z => z)
    intro w mg fa h Y G hmg0
    obtain ⟨K, KX, c⟩ := Y
    have F : K02.Facts K mg := ⟨c, h, KX, G⟩
    have hmg : mg ("law" : PySem.Str) = some (.ref fa) := by
      have e : (HandSHeadRun.topDef (OpenLaw.row PySem.Challenge.rw_dugdays_k02_menus_compared).prog 35).name = ("law" : PySem.Str) := by kernel_rfl
      rw [← e]
      exact hmg0
    have e := hmg.symm.trans (K02.g_law F)
    cases e
    obtain ⟨fd, D⟩ := K02.fun_law F
    exact ⟨K, fd, K02.spLaw K, KX, fun s u => D.bindsA (ps := ["script"]) (fun _ _ _ _ _ _ us hl => match us, hl with | [_], _ => rfl) s [u] rfl, fun H a ns h1 h2 h3 => ⟨a, ns, rfl, h3, h1, h2, fun _ => rfl⟩, fun base _ _ => K02.fn_law F D⟩

